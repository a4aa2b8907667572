/- Spans: of a node, its parts' being known: walked. -/
import Derived.Test.YtpbbokdmoaadfaaM26
import Derived.Test.YtpbbokdmoaadfaaM19
import Derived.Test.YtpbbokdmoaadfaaM20
import Derived.Test.YtpbbokdmoaadfaaM18
import Derived.Test.YtpbbokdmoaadfaaM11
import Derived.BigQuiet
import Derived.Test.YtpbbokdmoaadfaaProg
import Derived.WalkKit
import Derived.Carry
import Derived.Below
import Derived.Laws.EntriesVeiled
namespace Go.Proofs.Ytpbbokdmoaadfaa
open Go Go.RowKit
set_option linter.unusedVariables false
set_option linter.unusedSimpArgs false
set_option maxRecDepth 100000
set_option maxHeartbeats 16000000
end Go.Proofs.Ytpbbokdmoaadfaa
namespace Go.Proofs.Ytpbbokdmoaadfaa
open Go Go.RowKit
set_option linter.unusedVariables false
set_option linter.unusedSimpArgs false
set_option maxRecDepth 100000
theorem onePs_m {kind lo hi : Int} {p : Spn} : (onePs kind lo hi p).1 ≤ mxS ∧ (onePs kind lo hi p).2 ≤ mxS := by
  have key : ∀ most head : Int, most + head ≤ 65537 → (frmS most head p).1 ≤ mxS ∧ (frmS most head p).2 ≤ mxS := fun most head hh => by
    unfold frmS mxS
    split
    · exact ⟨by decide, by decide⟩
    · rename_i h
      refine ⟨by show p.1 + head ≤ _; omega, ?_⟩
      show (if p.2 < 0 ∨ most < p.2 then most else p.2) + head ≤ _
      split <;> omega
  unfold onePs
  split
  · split <;> exact ⟨by decide, by decide⟩
  · split
    · unfold repS
      split
      · split <;> exact ⟨by decide, by decide⟩
      · split
        · exact ⟨by decide, by decide⟩
        · refine ⟨by show min mxS _ ≤ _; unfold mxS; omega, ?_⟩
          show (if p.2 < 0 then (-1 : Int) else bndS (p.2 * hi)) ≤ _
          split
          · decide
          · rcases bndS_cases (p.2 * hi) with h | ⟨h, h2⟩
            · rw [h]; decide
            · rw [h]; exact h2
    · split
      · exact key 255 1 (by decide)
      · exact key 65535 2 (by decide)
theorem twoPs_m {kind : Int} {p q : Spn} (h : p.1 ≤ mxS ∧ p.2 ≤ mxS) (k : q.1 ≤ mxS ∧ q.2 ≤ mxS) : (twoPs kind p q).1 ≤ mxS ∧ (twoPs kind p q).2 ≤ mxS := by
  unfold twoPs
  split
  · unfold seqS
    split
    · exact ⟨by decide, by decide⟩
    · refine ⟨by show min mxS _ ≤ _; unfold mxS; omega, ?_⟩
      show (if p.2 < 0 ∨ q.2 < 0 then (-1 : Int) else bndS (p.2 + q.2)) ≤ _
      split
      · decide
      · rcases bndS_cases (p.2 + q.2) with h | ⟨h, h2⟩
        · rw [h]; decide
        · rw [h]; exact h2
  · unfold orS
    split
    · exact k
    · split
      · exact h
      · refine ⟨by show min p.1 q.1 ≤ _; omega, ?_⟩
        show (if p.2 < 0 ∨ q.2 < 0 then (-1 : Int) else max p.2 q.2) ≤ _
        split
        · decide
        · omega
structure SpNd (n : Nd) : Prop where
  kind : 1 ≤ n.kind ∧ n.kind ≤ 9
  rep : n.kind = 7 → 0 ≤ n.lo ∧ n.lo ≤ n.hi ∧ n.hi ≤ 255
  text : n.text.length ≤ 1099511627776
theorem spanS_good {n : Nd} (hn : SpNd n) {S : List Spn} (hS : ∀ x ∈ S, SpG x) : SpG (spanS n S) := by
  have hm : (1099511627776 : Int) = mxS := rfl
  unfold spanS
  split
  · refine ⟨leafPs_ok n, ?_⟩
    have ht := hn.text
    unfold leafPs
    split
    · exact ⟨by decide, by decide⟩
    · split
      · split <;> exact ⟨by decide, by decide⟩
      · exact ⟨by show (n.text.length : Int) ≤ _; omega, by show (n.text.length : Int) ≤ _; omega⟩
  · have ha := pairS_good hS n.a
    have hb := pairS_good hS n.b
    split
    · refine ⟨?_, ?_⟩
      · unfold twoPs
        split
        · exact seqS_ok ha.1 hb.1
        · exact orS_ok ha.1 hb.1
      · rw [hm]; exact twoPs_m (by rw [← hm]; exact ha.2) (by rw [← hm]; exact hb.2)
    · refine ⟨onePs_ok ha.1 (fun h => ?_), by rw [hm]; exact onePs_m⟩
      have := hn.rep h
      exact ⟨this.1, this.2.1⟩
theorem sps_good {l : List Nd} (h : ∀ n ∈ l, SpNd n) : ∀ k, k ≤ l.length → ∀ x ∈ sps l k, SpG x
  | 0, _, x, hx => by cases hx
  | k + 1, hk, x, hx => by
    rw [sps, List.mem_append] at hx
    rcases hx with hx | hx
    · exact sps_good h k (by omega) x hx
    · rw [List.mem_singleton.1 hx]
      refine spanS_good (h _ ?_) (sps_good h k (by omega))
      unfold atN
      rw [List.getD_eq_getElem?_getD, List.getElem?_eq_getElem (by omega)]; exact List.getElem_mem _
def spT (p : Spn) : Value := .tuple #[.int .i64 p.1, .int .i64 p.2]
theorem sp_drewN {B : Nat} {a w : World} (h : Below B a w) (n : Nat) : Below B a (w.drewN n) := h.trans ⟨rfl, rfl, rfl, Nat.le_refl _, fun _ _ => rfl⟩
theorem rsbound_any (n : Int) (w : World) : Calls Try.prog 35 #[.int .i64 n] w (Pure w (.int .i64 (bndS n))) := by
  by_cases h : 1099511627776 < n
  · have e : bndS n = -1 := by unfold bndS mxS; rw [if_pos h]
    have hz : n > 1099511627776 := h
    rw [e]
    go_enter Try.func35, Try.ntmps35
    go_wp2
    go_ret
    exact ⟨rfl, rfl⟩
  · have e : bndS n = n := by unfold bndS mxS; rw [if_neg h]
    have hz : ¬ n > 1099511627776 := h
    rw [e]
    go_enter Try.func35, Try.ntmps35
    go_wp2
    go_ret
    exact ⟨rfl, rfl⟩
structure RspS (w0 : World) (A : Option Addr) (l : List Nd) (c : Nat) (n : Nd) (w : World) : Prop where
  bel : Below w0.heap.size w0 w
  row : NRow w A l
  box : Blk w w0.heap.size #[.slice A l.length c] 24
  who : Blk w (w0.heap.size + 1) (ndC n) 44
theorem RspS.later {w0 w w' : World} {A : Option Addr} {l : List Nd} {c : Nat} {n : Nd} (h : RspS w0 A l c n w) (hb : Below w.heap.size w w') : RspS w0 A l c n w' := ⟨h.bel.trans (hb.mono h.bel.size), h.row.later hb, h.box.later hb, h.who.later hb⟩
theorem RspS.new (w : World) (A : Option Addr) (l : List Nd) (c : Nat) (n : Nd) (h : NRow w A l) : RspS w A l c n ((w.alloc (.cells #[.slice A l.length c] 24)).alloc (.cells (ndC n) 44)) := by
  have HB := ((Below.refl w.heap.size w).alloc (Nat.le_refl _) (.cells #[.slice A l.length c] 24)).alloc (by simp) (.cells (ndC n) 44)
  exact ⟨HB, h.later HB, (Blk.new w _ _).alloc _, Blk.new' (by simp) _ _⟩
def ClzL (w0 : World) (c : BitVec 256) (x : Value) (w : World) : Prop := ∃ k : Nat, k ≤ 4 ∧ x = .int .i64 (k : Int) ∧ (∀ j, j < k → wd c j = 0) ∧ w = w0
theorem cls_of_wds {c : BitVec 256} (h : ∀ j, j < 4 → wd c j = 0) : c = 0#256 := by
  obtain ⟨z0, z1, z2, z3⟩ := zcls
  have := beq_words c 0#256
  rw [z0, z1, z2, z3, h 0 (by omega), h 1 (by omega), h 2 (by omega), h 3 (by omega)] at this
  simpa using this.symm
theorem cls_ne {c : BitVec 256} {j : Nat} (hj : j < 4) (h : wd c j ≠ 0) : c ≠ 0#256 := fun e => by
  obtain ⟨z0, z1, z2, z3⟩ := zcls
  subst e
  rcases (by omega : j = 0 ∨ j = 1 ∨ j = 2 ∨ j = 3) with rfl | rfl | rfl | rfl
  · exact h z0
  · exact h z1
  · exact h z2
  · exact h z3
set_option maxHeartbeats 16000000 in
theorem rspnode_any (l : List Nd) (A : Option Addr) (c : Nat) (hF : Form l) (hc : l.length ≤ c) (hlen : l.length ≤ 536870912) (hG0 : ∀ n ∈ l, SpNd n) : ∀ (i : Nat), i < l.length → ∀ (w : World), NRow w A l →
    Calls Try.prog 22 #[.agg #[.slice A l.length c], .int .i64 (i : Int)] w (Ans w (spT (spN l i))) := by
  have HG : Hid (∀ j, j < l.length → SpG (spN l j)) := fun j hj => by
    refine sps_good hG0 (j + 1) (by omega) _ ?_
    rw [← sps_get l (j + 1) j (by omega), List.getD_eq_getElem?_getD, List.getElem?_eq_getElem (by rw [sps_length]; omega)]
    exact List.getElem_mem _
  have HNd := Lib.hid hG0
  clear hG0
  intro i
  induction i using Nat.strongRecOn with
  | ind i ih =>
    intro hi w hrow
    have IH := Lib.hid ih
    obtain ⟨ba, oa, rfl, hbl, -⟩ := hrow i hi
    have g : At10 w ba (oa + i * 10) (l.getD i nd0) := hrow.at hi rfl
    have hcs := (hF.2.1 i hi).cs rfl
    have hk9 := (hF.2.1 i hi).kind9
    have hnd := HNd.out (l.getD i nd0) (by rw [List.getD_eq_getElem?_getD, List.getElem?_eq_getElem hi]; exact List.getElem_mem _)
    have htn := hnd.text
    have HS2 := Lib.hid (RspS.new w (some ⟨ba, oa, none⟩) l c (l.getD i nd0) hrow)
    have hiz : (i : Int) < (l.length : Int) := by omega
    have hi0 : True := trivial
    obtain ⟨v, hv⟩ : ∃ v, spN l i = v := ⟨_, rfl⟩
    rw [hv]
    have HV := Lib.hid hv
    have hlf : leafK (atN l i).kind → v = leafPs (atN l i) := fun h => by rw [← hv]; exact spN_leaf h
    have hleaf := Lib.hid hlf
    clear ih hrow hv hlf hi0 hnd
    have hn : atN l i = l.getD i nd0 := rfl
    rw [hn] at hcs hk9 hleaf
    generalize l.getD i nd0 = n at *
    obtain ⟨kk, na, nb, nlo, nhi, ncls, ntext⟩ := n
    unfold At10 at g
    simp only at g hk9 htn
    obtain ⟨g0, g1, g2, g3, g4, g5, g6, g7, g8, g9⟩ := g
    have hl0 : ∀ o, (w.alloc (.cells #[.slice (some ⟨ba, oa, none⟩) l.length c] 24)).cell? ⟨ba, o, none⟩ = w.cell? ⟨ba, o, none⟩ := fun o => ((Below.refl w.heap.size w).alloc (Nat.le_refl _) (.cells #[.slice (some ⟨ba, oa, none⟩) l.length c] 24)).cell (p := ⟨ba, o, none⟩) hbl
    have HBX : Hid (Blk (w.alloc (.cells #[.slice (some ⟨ba, oa, none⟩) l.length c] 24)) w.heap.size #[.slice (some ⟨ba, oa, none⟩) l.length c] 24) := Blk.new _ _ _
    rw [← hl0] at g0 g1 g2 g3 g4 g5 g6 g7 g8 g9
    clear hl0
    go_enter Try.func22, Try.ntmps22
    go_upto_region 1 with (fail)
    unfold ndC at HS2
    simp only at HS2
    have hsz1 : (w.alloc (.cells #[.slice (some ⟨ba, oa, none⟩) l.length c] 24)).heap.size = w.heap.size + 1 := by simp
    generalize w.alloc (.cells #[.slice (some ⟨ba, oa, none⟩) l.length c] 24) = w1 at *
    have e0 := HBX.out.cell 0
    simp at e0
    go_upto_region 2 with (fail)
    rw [hsz1] at *
    clear g0 g1 g2 g3 g4 g5 g6 g7 g8 g9 e0 HBX
    generalize w1.alloc (.cells #[.int .i64 kk, .int .i64 na, .int .i64 nb, .int .i64 nlo, .int .i64 nhi, .int .u64 (wd ncls 0), .int .u64 (wd ncls 1), .int .u64 (wd ncls 2), .int .u64 (wd ncls 3), .string (bs ntext)] 44) = w2 at *
    clear hsz1
    have e0 := HS2.out.box.cell 0
    simp at e0
    obtain ⟨f0, f1, f2, f3, f4, f5, f6, f7, f8, f9⟩ := ten_cells HS2.out.who
    cases hcs with
    | leaf hk hf =>
      have hl := hleaf.out hk
      unfold leafK at hk
      simp only at hk
      rcases hk with rfl | rfl | rfl
      · have HE : Hid (v = (0, 0)) := hl
        clear hl hleaf HV
        go_wp2
        go_ret2
        exact ⟨by rw [HE.out]; rfl, HS2.out.bel⟩
      · have HE : Hid (v = if ncls = 0#256 then (-1, -1) else (1, 1)) := by unfold Hid; rw [hl]; unfold leafPs; simp only; simp
        clear hl hleaf HV
        go_wp2
        go_loopw [7] (ClzL w2 ncls) (fun x _ => 4 - (intOf x).toNat)
        case atStart => exact ⟨0, Nat.zero_le _, rfl, fun j hj => absurd hj (Nat.not_lt_zero j), rfl⟩
        case round =>
          obtain ⟨k, hk, rfl, hz, rfl⟩ := hrel
          have HZ := Lib.hid hz
          clear hz
          rcases (by omega : k = 0 ∨ k = 1 ∨ k = 2 ∨ k = 3 ∨ k = 4) with rfl | rfl | rfl | rfl | rfl
          ·
            by_cases hw : wd ncls 0 = 0
            · have HZ2 : Hid (∀ j, j < 0 + 1 → wd ncls j = 0) := fun j hj => by
                rcases Nat.lt_or_ge j 0 with h | h
                · exact HZ.out j h
                · rw [show j = 0 by omega]; exact hw
              have hz0 : (((wd ncls 0 : Nat) : Int) != 0) = false := by rw [hw]; rfl
              clear hw HZ
              go_wp2
              go_roundw
              case rel => exact ⟨0 + 1, by omega, by go_num, HZ2.out, rfl⟩
              case measure => simp [intOf]
            · have HE2 : Hid (v = (1, 1)) := by unfold Hid; rw [HE.out, if_neg (cls_ne (j := 0) (by omega) hw)]
              have hz0 : (((wd ncls 0 : Nat) : Int) != 0) = true := by rw [bne_iff_ne]; omega
              clear hw HZ HE
              go_wp2
              go_ret2
              exact ⟨by rw [HE2.out]; rfl, HS2.out.bel⟩
          ·
            by_cases hw : wd ncls 1 = 0
            · have HZ2 : Hid (∀ j, j < 1 + 1 → wd ncls j = 0) := fun j hj => by
                rcases Nat.lt_or_ge j 1 with h | h
                · exact HZ.out j h
                · rw [show j = 1 by omega]; exact hw
              have hz0 : (((wd ncls 1 : Nat) : Int) != 0) = false := by rw [hw]; rfl
              clear hw HZ
              go_wp2
              go_roundw
              case rel => exact ⟨1 + 1, by omega, by go_num, HZ2.out, rfl⟩
              case measure => simp [intOf]
            · have HE2 : Hid (v = (1, 1)) := by unfold Hid; rw [HE.out, if_neg (cls_ne (j := 1) (by omega) hw)]
              have hz0 : (((wd ncls 1 : Nat) : Int) != 0) = true := by rw [bne_iff_ne]; omega
              clear hw HZ HE
              go_wp2
              go_ret2
              exact ⟨by rw [HE2.out]; rfl, HS2.out.bel⟩
          ·
            by_cases hw : wd ncls 2 = 0
            · have HZ2 : Hid (∀ j, j < 2 + 1 → wd ncls j = 0) := fun j hj => by
                rcases Nat.lt_or_ge j 2 with h | h
                · exact HZ.out j h
                · rw [show j = 2 by omega]; exact hw
              have hz0 : (((wd ncls 2 : Nat) : Int) != 0) = false := by rw [hw]; rfl
              clear hw HZ
              go_wp2
              go_roundw
              case rel => exact ⟨2 + 1, by omega, by go_num, HZ2.out, rfl⟩
              case measure => simp [intOf]
            · have HE2 : Hid (v = (1, 1)) := by unfold Hid; rw [HE.out, if_neg (cls_ne (j := 2) (by omega) hw)]
              have hz0 : (((wd ncls 2 : Nat) : Int) != 0) = true := by rw [bne_iff_ne]; omega
              clear hw HZ HE
              go_wp2
              go_ret2
              exact ⟨by rw [HE2.out]; rfl, HS2.out.bel⟩
          ·
            by_cases hw : wd ncls 3 = 0
            · have HZ2 : Hid (∀ j, j < 3 + 1 → wd ncls j = 0) := fun j hj => by
                rcases Nat.lt_or_ge j 3 with h | h
                · exact HZ.out j h
                · rw [show j = 3 by omega]; exact hw
              have hz0 : (((wd ncls 3 : Nat) : Int) != 0) = false := by rw [hw]; rfl
              clear hw HZ
              go_wp2
              go_roundw
              case rel => exact ⟨3 + 1, by omega, by go_num, HZ2.out, rfl⟩
              case measure => simp [intOf]
            · have HE2 : Hid (v = (1, 1)) := by unfold Hid; rw [HE.out, if_neg (cls_ne (j := 3) (by omega) hw)]
              have hz0 : (((wd ncls 3 : Nat) : Int) != 0) = true := by rw [bne_iff_ne]; omega
              clear hw HZ HE
              go_wp2
              go_ret2
              exact ⟨by rw [HE2.out]; rfl, HS2.out.bel⟩
          · have HE2 : Hid (v = (-1, -1)) := by unfold Hid; rw [HE.out, if_pos (cls_of_wds HZ.out)]
            clear HE HZ
            go_wp2
            go_ret2
            exact ⟨by rw [HE2.out]; rfl, HS2.out.bel⟩
      · have e : v = (((bs ntext).size : Int), ((bs ntext).size : Int)) := by rw [hl, bs_size]; unfold leafPs; simp
        have HE := Lib.hid e
        clear e hl hleaf HV
        go_upto_region 12 with (fail)
        go_quiet (fail)
        go_wp2
        go_ret2
        exact ⟨by rw [HE.out]; rfl, sp_drewN HS2.out.bel _⟩
    | one hk hi0 ha hb h7 hr hc hf =>
      simp only at hk ha hb h7 hr hc
      clear hf hb h7 hc
      have hkk : kk = 6 ∨ kk = 7 ∨ kk = 8 ∨ kk = 9 := by omega
      rcases hkk with rfl | rfl | rfl | rfl
      ·
        obtain rfl : na = (i : Int) - 1 := ha
        have CI : Hid (∀ w', NRow w' (some ⟨ba, oa, none⟩) l → Calls Try.prog 22 #[.agg #[.slice (some ⟨ba, oa, none⟩) l.length c], .int .i64 ((i : Int) - 1)] w' (Ans w' (spT (spN l (i - 1))))) := fun w' h => by
          have := IH.out (i - 1) (by omega) (by omega) w' h
          rwa [show ((i - 1 : Nat) : Int) = (i : Int) - 1 by omega] at this
        obtain ⟨hx1, hx2, hx3⟩ := HG.out (i - 1) (by omega)
        have hsz := spN_one (l := l) hi0 (by rw [hn]; exact hk) (by rw [hn])
        rw [hn, HV.out] at hsz
        simp only at hsz
        generalize spN l (i - 1) = xy at *
        obtain ⟨x, y⟩ := xy
        unfold SpOk at hx1
        unfold spT at CI
        simp only at hx1 hx2 hx3 CI
        clear hk hr
        have HSZ := Lib.hid hsz
        clear hsz
        go_wp2_with fail
        refine (CI.out _ HS2.out.row).mono ?_; rintro e w3 ⟨rfl, hb3⟩
        have HS3 := Lib.hid (HS2.out.later hb3)
        clear hb3 e0 f0 f1 f2 f3 f4 f5 f6 f7 f8 f9
        obtain ⟨f0, f1, f2, f3, f4, f5, f6, f7, f8, f9⟩ := ten_cells HS3.out.who
        by_cases ha : x < 0
        · have HE : Hid (v = (0, 0)) := by unfold Hid; rw [HSZ.out]; unfold onePs; rw [if_pos rfl, if_pos (.inl ha)]
          clear hx1 hx3
          go_wp2
          go_ret2
          exact ⟨by rw [HE.out]; rfl, HS3.out.bel⟩
        · by_cases hy : y = 0
          · have HE : Hid (v = (0, 0)) := by unfold Hid; rw [HSZ.out]; unfold onePs; rw [if_pos rfl, if_pos (.inr hy)]
            have hy0 : (y == 0) = true := by simp [hy]
            clear hx1 hx3 hy
            go_wp2
            go_ret2
            exact ⟨by rw [HE.out]; rfl, HS3.out.bel⟩
          · have HE : Hid (v = (0, -1)) := by unfold Hid; rw [HSZ.out]; unfold onePs; rw [if_pos rfl, if_neg (by simp only; omega)]
            have hy0 : (y == 0) = false := by rw [beq_eq_false_iff_ne]; exact hy
            clear hx1 hx3 hy
            go_wp2
            go_ret2
            exact ⟨by rw [HE.out]; rfl, HS3.out.bel⟩
      ·
        obtain ⟨hr1, hr2, hr3⟩ := hr rfl
        have hr := trivial
        obtain rfl : na = (i : Int) - 1 := ha
        have CI : Hid (∀ w', NRow w' (some ⟨ba, oa, none⟩) l → Calls Try.prog 22 #[.agg #[.slice (some ⟨ba, oa, none⟩) l.length c], .int .i64 ((i : Int) - 1)] w' (Ans w' (spT (spN l (i - 1))))) := fun w' h => by
          have := IH.out (i - 1) (by omega) (by omega) w' h
          rwa [show ((i - 1 : Nat) : Int) = (i : Int) - 1 by omega] at this
        obtain ⟨hx1, hx2, hx3⟩ := HG.out (i - 1) (by omega)
        have hsz := spN_one (l := l) hi0 (by rw [hn]; exact hk) (by rw [hn])
        rw [hn, HV.out] at hsz
        simp only at hsz
        generalize spN l (i - 1) = xy at *
        obtain ⟨x, y⟩ := xy
        unfold SpOk at hx1
        unfold spT at CI
        simp only at hx1 hx2 hx3 CI
        clear hk hr
        have HSZ := Lib.hid hsz
        clear hsz
        go_wp2_with fail
        refine (CI.out _ HS2.out.row).mono ?_; rintro e w3 ⟨rfl, hb3⟩
        have HS3 := Lib.hid (HS2.out.later hb3)
        clear hb3 e0 f0 f1 f2 f3 f4 f5 f6 f7 f8 f9
        obtain ⟨f0, f1, f2, f3, f4, f5, f6, f7, f8, f9⟩ := ten_cells HS3.out.who
        have HSZ : Hid (v = repS nlo nhi (x, y)) := HSZ.out
        by_cases ha : x < 0
        · by_cases hl : 0 < nlo
          · have HE : Hid (v = (-1, -1)) := by unfold Hid; rw [HSZ.out]; unfold repS; rw [if_pos ha, if_pos hl]
            have hl2 : nlo > 0 := hl
            have hl3 : decide (nlo > 0) = true := decide_eq_true hl
            clear hx1 hx3 hl
            go_wp2
            go_ret2
            exact ⟨by rw [HE.out]; rfl, HS3.out.bel⟩
          · have HE : Hid (v = (0, 0)) := by unfold Hid; rw [HSZ.out]; unfold repS; rw [if_pos ha, if_neg hl]
            have hl2 : ¬ nlo > 0 := hl
            have hl3 : decide (nlo > 0) = false := decide_eq_false hl
            clear hx1 hx3 hl
            go_wp2
            go_ret2
            exact ⟨by rw [HE.out]; rfl, HS3.out.bel⟩
        · by_cases hh : nhi = 0
          · have HE : Hid (v = (0, 0)) := by unfold Hid; rw [HSZ.out]; unfold repS; rw [if_neg ha, if_pos hh]
            have hh0 : (nhi == 0) = true := by simp [hh]
            clear hx1 hx3 hh
            go_wp2
            go_ret2
            exact ⟨by rw [HE.out]; rfl, HS3.out.bel⟩
          · have hh0 : (nhi == 0) = false := by rw [beq_eq_false_iff_ne]; exact hh
            have hm0 : 0 ≤ x * nlo := Int.mul_nonneg (by omega) (by omega)
            have hm1 : x * nlo ≤ 1099511627776 * 255 := Int.mul_le_mul hx2 (by omega) (by omega) (by omega)
            have HM : Hid (wrap64 (x * nlo) = x * nlo) := by unfold Hid wrap64; omega
            by_cases hy : y < 0
            · have HE : Hid (v = (min 1099511627776 (x * nlo), -1)) := by
                unfold Hid; rw [HSZ.out]; unfold repS mxS; rw [if_neg ha, if_neg hh, if_pos hy]
              clear hx1 hx3 hh hm0 hm1
              go_wp2
              rw [HM.out]
              go_ret2
              exact ⟨by rw [HE.out]; rfl, HS3.out.bel⟩
            · have HE : Hid (v = (min 1099511627776 (x * nlo), bndS (y * nhi))) := by
                unfold Hid; rw [HSZ.out]; unfold repS mxS; rw [if_neg ha, if_neg hh, if_neg hy]
              have hn0 : 0 ≤ y * nhi := Int.mul_nonneg (by omega) (by omega)
              have hn1 : y * nhi ≤ 1099511627776 * 255 := Int.mul_le_mul hx3 (by omega) (by omega) (by omega)
              have HN : Hid (wrap64 (y * nhi) = y * nhi) := by unfold Hid wrap64; omega
              have CB : Hid (∀ w', Calls Try.prog 35 #[.int .i64 (y * nhi)] w' (Pure w' (.int .i64 (bndS (y * nhi))))) := fun w' => rsbound_any (y * nhi) w'
              clear hx1 hx3 hh hm0 hm1 hn0 hn1
              go_wp2_with fail
              rw [HM.out, HN.out]
              refine (CB.out _).mono ?_; rintro e w5 ⟨rfl, rfl⟩
              go_wp2
              go_ret2
              exact ⟨by rw [HE.out]; rfl, HS3.out.bel⟩
      ·
        obtain rfl : na = (i : Int) - 1 := ha
        have CI : Hid (∀ w', NRow w' (some ⟨ba, oa, none⟩) l → Calls Try.prog 22 #[.agg #[.slice (some ⟨ba, oa, none⟩) l.length c], .int .i64 ((i : Int) - 1)] w' (Ans w' (spT (spN l (i - 1))))) := fun w' h => by
          have := IH.out (i - 1) (by omega) (by omega) w' h
          rwa [show ((i - 1 : Nat) : Int) = (i : Int) - 1 by omega] at this
        obtain ⟨hx1, hx2, hx3⟩ := HG.out (i - 1) (by omega)
        have hsz := spN_one (l := l) hi0 (by rw [hn]; exact hk) (by rw [hn])
        rw [hn, HV.out] at hsz
        simp only at hsz
        generalize spN l (i - 1) = xy at *
        obtain ⟨x, y⟩ := xy
        unfold SpOk at hx1
        unfold spT at CI
        simp only at hx1 hx2 hx3 CI
        clear hk hr
        have HSZ := Lib.hid hsz
        clear hsz
        go_wp2_with fail
        refine (CI.out _ HS2.out.row).mono ?_; rintro e w3 ⟨rfl, hb3⟩
        have HS3 := Lib.hid (HS2.out.later hb3)
        clear hb3 e0 f0 f1 f2 f3 f4 f5 f6 f7 f8 f9
        obtain ⟨f0, f1, f2, f3, f4, f5, f6, f7, f8, f9⟩ := ten_cells HS3.out.who
        have HSZ : Hid (v = frmS 255 1 (x, y)) := HSZ.out
        by_cases ha : x < 0
        · have HE : Hid (v = (-1, -1)) := by unfold Hid; rw [HSZ.out]; unfold frmS; rw [if_pos (.inl ha)]
          clear hx1 hx3
          go_wp2
          go_ret2
          exact ⟨by rw [HE.out]; rfl, HS3.out.bel⟩
        · by_cases hg : 255 < x
          · have HE : Hid (v = (-1, -1)) := by unfold Hid; rw [HSZ.out]; unfold frmS; rw [if_pos (.inr hg)]
            have hg2 : x > 255 := hg
            have hg3 : decide (x > 255) = true := decide_eq_true hg
            clear hx1 hx3
            go_wp2
            go_ret2
            exact ⟨by rw [HE.out]; rfl, HS3.out.bel⟩
          · have hg2 : ¬ x > 255 := hg
            have hg3 : decide (x > 255) = false := decide_eq_false hg
            by_cases hy : y < 0
            · have HE : Hid (v = (x + 1, 255 + 1)) := by unfold Hid; rw [HSZ.out]; unfold frmS; rw [if_neg (by simp only; omega)]; simp only; rw [if_pos (.inl hy)]
              clear hx1
              go_wp2
              go_ret2
              exact ⟨by rw [HE.out]; rfl, HS3.out.bel⟩
            · by_cases hm : 255 < y
              · have HE : Hid (v = (x + 1, 255 + 1)) := by unfold Hid; rw [HSZ.out]; unfold frmS; rw [if_neg (by simp only; omega)]; simp only; rw [if_pos (.inr hm)]
                have hm2 : y > 255 := hm
                have hm3 : decide (y > 255) = true := decide_eq_true hm
                clear hx1
                go_wp2
                go_ret2
                exact ⟨by rw [HE.out]; rfl, HS3.out.bel⟩
              · have HE : Hid (v = (x + 1, y + 1)) := by unfold Hid; rw [HSZ.out]; unfold frmS; rw [if_neg (by simp only; omega)]; simp only; rw [if_neg (by omega)]
                have hm2 : ¬ y > 255 := hm
                have hm3 : decide (y > 255) = false := decide_eq_false hm
                clear hx1
                go_wp2
                go_ret2
                exact ⟨by rw [HE.out]; rfl, HS3.out.bel⟩
      ·
        obtain rfl : na = (i : Int) - 1 := ha
        have CI : Hid (∀ w', NRow w' (some ⟨ba, oa, none⟩) l → Calls Try.prog 22 #[.agg #[.slice (some ⟨ba, oa, none⟩) l.length c], .int .i64 ((i : Int) - 1)] w' (Ans w' (spT (spN l (i - 1))))) := fun w' h => by
          have := IH.out (i - 1) (by omega) (by omega) w' h
          rwa [show ((i - 1 : Nat) : Int) = (i : Int) - 1 by omega] at this
        obtain ⟨hx1, hx2, hx3⟩ := HG.out (i - 1) (by omega)
        have hsz := spN_one (l := l) hi0 (by rw [hn]; exact hk) (by rw [hn])
        rw [hn, HV.out] at hsz
        simp only at hsz
        generalize spN l (i - 1) = xy at *
        obtain ⟨x, y⟩ := xy
        unfold SpOk at hx1
        unfold spT at CI
        simp only at hx1 hx2 hx3 CI
        clear hk hr
        have HSZ := Lib.hid hsz
        clear hsz
        go_wp2_with fail
        refine (CI.out _ HS2.out.row).mono ?_; rintro e w3 ⟨rfl, hb3⟩
        have HS3 := Lib.hid (HS2.out.later hb3)
        clear hb3 e0 f0 f1 f2 f3 f4 f5 f6 f7 f8 f9
        obtain ⟨f0, f1, f2, f3, f4, f5, f6, f7, f8, f9⟩ := ten_cells HS3.out.who
        have HSZ : Hid (v = frmS 65535 2 (x, y)) := HSZ.out
        by_cases ha : x < 0
        · have HE : Hid (v = (-1, -1)) := by unfold Hid; rw [HSZ.out]; unfold frmS; rw [if_pos (.inl ha)]
          clear hx1 hx3
          go_wp2
          go_ret2
          exact ⟨by rw [HE.out]; rfl, HS3.out.bel⟩
        · by_cases hg : 65535 < x
          · have HE : Hid (v = (-1, -1)) := by unfold Hid; rw [HSZ.out]; unfold frmS; rw [if_pos (.inr hg)]
            have hg2 : x > 65535 := hg
            have hg3 : decide (x > 65535) = true := decide_eq_true hg
            clear hx1 hx3
            go_wp2
            go_ret2
            exact ⟨by rw [HE.out]; rfl, HS3.out.bel⟩
          · have hg2 : ¬ x > 65535 := hg
            have hg3 : decide (x > 65535) = false := decide_eq_false hg
            by_cases hy : y < 0
            · have HE : Hid (v = (x + 2, 65535 + 2)) := by unfold Hid; rw [HSZ.out]; unfold frmS; rw [if_neg (by simp only; omega)]; simp only; rw [if_pos (.inl hy)]
              clear hx1
              go_wp2
              go_ret2
              exact ⟨by rw [HE.out]; rfl, HS3.out.bel⟩
            · by_cases hm : 65535 < y
              · have HE : Hid (v = (x + 2, 65535 + 2)) := by unfold Hid; rw [HSZ.out]; unfold frmS; rw [if_neg (by simp only; omega)]; simp only; rw [if_pos (.inr hm)]
                have hm2 : y > 65535 := hm
                have hm3 : decide (y > 65535) = true := decide_eq_true hm
                clear hx1
                go_wp2
                go_ret2
                exact ⟨by rw [HE.out]; rfl, HS3.out.bel⟩
              · have HE : Hid (v = (x + 2, y + 2)) := by unfold Hid; rw [HSZ.out]; unfold frmS; rw [if_neg (by simp only; omega)]; simp only; rw [if_neg (by omega)]
                have hm2 : ¬ y > 65535 := hm
                have hm3 : decide (y > 65535) = false := decide_eq_false hm
                clear hx1
                go_wp2
                go_ret2
                exact ⟨by rw [HE.out]; rfl, HS3.out.bel⟩
    | two hk hi0 hb ha hf0 hl hc hf =>
      simp only at hk ha hb hl hc
      clear hl hc
      rcases hk with rfl | rfl
      ·
        have hk : (4 : Int) = 4 ∨ (4 : Int) = 5 := .inl rfl
        obtain rfl : nb = (i : Int) - 1 := hb
        have hfl := firstP_le l (i - 1)
        obtain ⟨p, hp⟩ : ∃ p, firstP l (i - 1) = p + 1 := ⟨firstP l (i - 1) - 1, by omega⟩
        rw [hp] at ha hfl hf0
        obtain rfl : na = (p : Int) := by omega
        have CI : Hid (∀ w', NRow w' (some ⟨ba, oa, none⟩) l → Calls Try.prog 22 #[.agg #[.slice (some ⟨ba, oa, none⟩) l.length c], .int .i64 ((i : Int) - 1)] w' (Ans w' (spT (spN l (i - 1))))) := fun w' h => by
          have := IH.out (i - 1) (by omega) (by omega) w' h
          rwa [show ((i - 1 : Nat) : Int) = (i : Int) - 1 by omega] at this
        have CP : Hid (∀ w', NRow w' (some ⟨ba, oa, none⟩) l → Calls Try.prog 22 #[.agg #[.slice (some ⟨ba, oa, none⟩) l.length c], .int .i64 (p : Int)] w' (Ans w' (spT (spN l p)))) := fun w' h => IH.out p (by omega) (by omega) w' h
        obtain ⟨hx1, hx2, hx3⟩ := HG.out p (by omega)
        obtain ⟨hy1, hy2, hy3⟩ := HG.out (i - 1) (by omega)
        have hsz := spN_two (l := l) (p := p) hi0 (by rw [hn]; exact hk) (by rw [hn]) (by omega) (by rw [hn])
        rw [hn, HV.out] at hsz
        simp only at hsz
        generalize spN l (i - 1) = xy2 at *
        generalize spN l p = xy at *
        obtain ⟨x, y⟩ := xy
        obtain ⟨x2, y2⟩ := xy2
        unfold SpOk at hx1 hy1
        unfold spT at CI CP
        simp only at hx1 hx2 hx3 hy1 hy2 hy3 CI CP
        clear hk hp ha hf0 hfl hf
        have HSZ := Lib.hid hsz
        clear hsz
        go_wp2_with fail
        refine (CP.out _ HS2.out.row).mono ?_; rintro e w3 ⟨rfl, hb3⟩
        have HS3 := Lib.hid (HS2.out.later hb3)
        clear hb3 e0 f0 f1 f2 f3 f4 f5 f6 f7 f8 f9
        have e0 := HS3.out.box.cell 0
        simp at e0
        obtain ⟨f0, f1, f2, f3, f4, f5, f6, f7, f8, f9⟩ := ten_cells HS3.out.who
        go_wp2_with fail
        refine (CI.out _ HS3.out.row).mono ?_; rintro e w4 ⟨rfl, hb4⟩
        have HS4 := Lib.hid (HS3.out.later hb4)
        clear hb4 e0 f0 f1 f2 f3 f4 f5 f6 f7 f8 f9
        have HSZ : Hid (v = seqS (x, y) (x2, y2)) := HSZ.out
        by_cases ha : x < 0
        · have HE : Hid (v = (-1, -1)) := by unfold Hid; rw [HSZ.out]; unfold seqS; rw [if_pos (.inl ha)]
          clear hx1 hx3 hy1 hy3
          go_wp2
          go_ret2
          exact ⟨by rw [HE.out]; rfl, HS4.out.bel⟩
        · by_cases hb : x2 < 0
          · have HE : Hid (v = (-1, -1)) := by unfold Hid; rw [HSZ.out]; unfold seqS; rw [if_pos (.inr hb)]
            clear hx1 hx3 hy1 hy3
            go_wp2
            go_ret2
            exact ⟨by rw [HE.out]; rfl, HS4.out.bel⟩
          · have hE : v = (min mxS (x + x2), if y < 0 ∨ y2 < 0 then -1 else bndS (y + y2)) := by rw [HSZ.out]; unfold seqS; rw [if_neg (by simp only; omega)]
            by_cases hy : y < 0
            · have HE : Hid (v = (min 1099511627776 (x + x2), -1)) := by unfold Hid; rw [hE, if_pos (.inl hy)]; rfl
              clear hx1 hy1 hE
              go_wp2
              go_ret2
              exact ⟨by rw [HE.out]; rfl, HS4.out.bel⟩
            · by_cases hz : y2 < 0
              · have HE : Hid (v = (min 1099511627776 (x + x2), -1)) := by unfold Hid; rw [hE, if_pos (.inr hz)]; rfl
                clear hx1 hy1 hE
                go_wp2
                go_ret2
                exact ⟨by rw [HE.out]; rfl, HS4.out.bel⟩
              · have HE : Hid (v = (min 1099511627776 (x + x2), bndS (y + y2))) := by unfold Hid; rw [hE, if_neg (by omega)]; rfl
                have CB : Hid (∀ w', Calls Try.prog 35 #[.int .i64 (y + y2)] w' (Pure w' (.int .i64 (bndS (y + y2))))) := fun w' => rsbound_any (y + y2) w'
                clear hx1 hy1 hE
                go_wp2_with fail
                refine (CB.out _).mono ?_; rintro e w5 ⟨rfl, rfl⟩
                go_wp2
                go_ret2
                exact ⟨by rw [HE.out]; rfl, HS4.out.bel⟩
      ·
        have hk : (5 : Int) = 4 ∨ (5 : Int) = 5 := .inr rfl
        obtain rfl : nb = (i : Int) - 1 := hb
        have hfl := firstP_le l (i - 1)
        obtain ⟨p, hp⟩ : ∃ p, firstP l (i - 1) = p + 1 := ⟨firstP l (i - 1) - 1, by omega⟩
        rw [hp] at ha hfl hf0
        obtain rfl : na = (p : Int) := by omega
        have CI : Hid (∀ w', NRow w' (some ⟨ba, oa, none⟩) l → Calls Try.prog 22 #[.agg #[.slice (some ⟨ba, oa, none⟩) l.length c], .int .i64 ((i : Int) - 1)] w' (Ans w' (spT (spN l (i - 1))))) := fun w' h => by
          have := IH.out (i - 1) (by omega) (by omega) w' h
          rwa [show ((i - 1 : Nat) : Int) = (i : Int) - 1 by omega] at this
        have CP : Hid (∀ w', NRow w' (some ⟨ba, oa, none⟩) l → Calls Try.prog 22 #[.agg #[.slice (some ⟨ba, oa, none⟩) l.length c], .int .i64 (p : Int)] w' (Ans w' (spT (spN l p)))) := fun w' h => IH.out p (by omega) (by omega) w' h
        obtain ⟨hx1, hx2, hx3⟩ := HG.out p (by omega)
        obtain ⟨hy1, hy2, hy3⟩ := HG.out (i - 1) (by omega)
        have hsz := spN_two (l := l) (p := p) hi0 (by rw [hn]; exact hk) (by rw [hn]) (by omega) (by rw [hn])
        rw [hn, HV.out] at hsz
        simp only at hsz
        generalize spN l (i - 1) = xy2 at *
        generalize spN l p = xy at *
        obtain ⟨x, y⟩ := xy
        obtain ⟨x2, y2⟩ := xy2
        unfold SpOk at hx1 hy1
        unfold spT at CI CP
        simp only at hx1 hx2 hx3 hy1 hy2 hy3 CI CP
        clear hk hp ha hf0 hfl hf
        have HSZ := Lib.hid hsz
        clear hsz
        go_wp2_with fail
        refine (CP.out _ HS2.out.row).mono ?_; rintro e w3 ⟨rfl, hb3⟩
        have HS3 := Lib.hid (HS2.out.later hb3)
        clear hb3 e0 f0 f1 f2 f3 f4 f5 f6 f7 f8 f9
        have e0 := HS3.out.box.cell 0
        simp at e0
        obtain ⟨f0, f1, f2, f3, f4, f5, f6, f7, f8, f9⟩ := ten_cells HS3.out.who
        go_wp2_with fail
        refine (CI.out _ HS3.out.row).mono ?_; rintro e w4 ⟨rfl, hb4⟩
        have HS4 := Lib.hid (HS3.out.later hb4)
        clear hb4 e0 f0 f1 f2 f3 f4 f5 f6 f7 f8 f9
        have HSZ : Hid (v = orS (x, y) (x2, y2)) := HSZ.out
        by_cases ha : x < 0
        · have HE : Hid (v = (x2, y2)) := by unfold Hid; rw [HSZ.out]; unfold orS; rw [if_pos ha]
          clear hx1 hx3 hy1 hy3
          go_wp2
          go_ret2
          exact ⟨by rw [HE.out]; rfl, HS4.out.bel⟩
        · by_cases hb : x2 < 0
          · have HE : Hid (v = (x, y)) := by unfold Hid; rw [HSZ.out]; unfold orS; rw [if_neg ha, if_pos hb]
            clear hx1 hx3 hy1 hy3
            go_wp2
            go_ret2
            exact ⟨by rw [HE.out]; rfl, HS4.out.bel⟩
          · have hE : v = (min x x2, if y < 0 ∨ y2 < 0 then -1 else max y y2) := by rw [HSZ.out]; unfold orS; rw [if_neg ha, if_neg hb]
            by_cases hy : y < 0
            · have HE : Hid (v = (min x x2, -1)) := by unfold Hid; rw [hE, if_pos (.inl hy)]
              clear hx1 hy1 hE
              go_wp2
              go_ret2
              exact ⟨by rw [HE.out]; rfl, HS4.out.bel⟩
            · by_cases hz : y2 < 0
              · have HE : Hid (v = (min x x2, -1)) := by unfold Hid; rw [hE, if_pos (.inr hz)]
                clear hx1 hy1 hE
                go_wp2
                go_ret2
                exact ⟨by rw [HE.out]; rfl, HS4.out.bel⟩
              · have HE : Hid (v = (min x x2, max y y2)) := by unfold Hid; rw [hE, if_neg (by omega)]
                clear hx1 hy1 hE
                go_wp2
                go_ret2
                exact ⟨by rw [HE.out]; rfl, HS4.out.bel⟩
end Go.Proofs.Ytpbbokdmoaadfaa
namespace Go.Proofs.Ytpbbokdmoaadfaa
open Go Go.RowKit
set_option linter.unusedVariables false
set_option linter.unusedSimpArgs false
set_option maxRecDepth 100000
end Go.Proofs.Ytpbbokdmoaadfaa
