/- The twin's Add: walked. -/
import Derived.Test.YtidoofdofdhjpaaM51
import Derived.Test.YtidoofdofdhjpaaM50
namespace Go.Proofs.Ytidoofdofdhjpaa
open Go Go.RowKit
set_option linter.unusedVariables false
set_option linter.unusedSimpArgs false
set_option maxRecDepth 1000000
set_option maxHeartbeats 64000000

end Go.Proofs.Ytidoofdofdhjpaa
/- The twin's Same, of the same branches: walked. -/
namespace Go.Proofs.Ytidoofdofdhjpaa
open Go Go.RowKit
set_option linter.unusedVariables false
set_option linter.unusedSimpArgs false
set_option maxRecDepth 1000000
set_option maxHeartbeats 64000000

structure HsmS (T : Brs) (A B : Option Addr) (D E : List HdE) (w0 w : World) : Prop where
  bel : Below w0.heap.size w0 w
  a : BrA T A D w
  b : BrA T B E w
theorem HsmS.later {T : Brs} {A B : Option Addr} {D E : List HdE} {w0 w w' : World} (h : HsmS T A B D E w0 w) (hb : Below w.heap.size w w') : HsmS T A B D E w0 w' := ⟨h.bel.trans (hb.mono h.bel.size), h.a.later hb, h.b.later hb⟩
def HsmM (T : Brs) (A B : Option Addr) (D E : List HdE) (w0 : World) (i : Value) (w : World) : Prop := ∃ j : Nat, j ≤ D.length ∧ i = .int .i64 (j : Int) ∧ HsmS T A B D E w0 w
theorem rsame14_any (T : Brs) (A B : Option Addr) (D E : List HdE) (c c2 : Nat) (hl : D.length ≤ 100000) (w : World) (ha : BrA T A D w) (hb : BrA T B E w) :
    Calls Try.prog 13 #[.slice A D.length c, .slice B E.length c2] w (Ans w (.bool true)) := by
  have hde : E.length = D.length := by
    have h1 := congrArg List.length ha.brs
    have h2 := congrArg List.length hb.brs
    rw [List.length_map] at h1 h2
    omega
  have HEQ : Hid (∀ j, j < D.length → (D.getD j hd0).s = (E.getD j hd0).s ∧ (D.getD j hd0).many = (E.getD j hd0).many) := fun j hj => by
    have h1 : (D.map brS)[j]? = (E.map brS)[j]? := by rw [ha.brs, hb.brs]
    rw [List.getElem?_map, List.getElem?_map, hd_here hj, hd_here (by omega : j < E.length)] at h1
    simp only [Option.map_some, Option.some.injEq, brS, Prod.mk.injEq] at h1
    exact h1
  have HS0 : Hid (HsmM T A B D E w (.int .i64 0) w) := ⟨0, Nat.zero_le _, rfl, Below.refl _ _, ha, hb⟩
  have HCA := Lib.hid ha.cap
  have HCB := Lib.hid hb.cap
  have HDE := Lib.hid hde
  clear ha hb
  have hdz : (D.length : Int) ≤ 100000 := by omega
  rw [hde]
  clear hde
  go_enter Try.func13, Try.ntmps13
  go_wp2
  go_loopw [5] (HsmM T A B D E w) (fun i _ => D.length - (intOf i).toNat)
  case atStart => exact HS0.out
  case round =>
    obtain ⟨j, hj, rfl, hh⟩ := hrel
    have HH := Lib.hid hh
    clear hh
    by_cases hlt : j < D.length
    · have hz : (j : Int) < (D.length : Int) := by omega
      have HLT := Lib.hid hlt
      have hlt2 : j < E.length := by have := HDE.out; omega
      obtain ⟨e1, e2⟩ := HEQ.out j hlt
      have HGA := Lib.hid (hd_here hlt)
      have HGB := Lib.hid (hd_here hlt2)
      have HMA := Lib.hid (hd_mem hlt)
      have HMB := Lib.hid (hd_mem hlt2)
      have l1 := (HCA.out _ (hd_mem hlt)).2
      have l2 := (HCB.out _ (hd_mem hlt2)).2
      obtain ⟨ba, oa, rfl, -, -⟩ := HH.out.a.row j hlt
      obtain ⟨bb, ob, rfl, -, -⟩ := HH.out.b.row j hlt2
      have HSM : Hid (∀ w', HsmS T (some ⟨ba, oa, none⟩) (some ⟨bb, ob, none⟩) D E w w' → Calls Try.prog 32 #[.slice (D.getD j hd0).A (D.getD j hd0).s.length (D.getD j hd0).cap, .slice (E.getD j hd0).A (E.getD j hd0).s.length (E.getD j hd0).cap] w' (Ans w' (.bool true))) := fun w' h => by
        have := rstsame_any _ _ _ _ (D.getD j hd0).cap (E.getD j hd0).cap w' (h.a.its _ HMA.out) (h.b.its _ HMB.out) (by omega) (by omega)
        rw [decide_eq_true e1] at this; exact this
      have m1 : (D.getD j hd0).many = (E.getD j hd0).many := e2
      clear l1 l2 e1 e2 hlt hlt2 hj
      go_upto_region 6 with (fail)
      generalize D.getD j hd0 = d at *
      generalize E.getD j hd0 = e at *
      have hmm : ((d.many : Int) != (d.many : Int)) = false := by simp
      refine wp_region_stable (S := (HsmS T (some ⟨ba, oa, none⟩) (some ⟨bb, ob, none⟩) D E w)) (hSt := fun _ _ h hb => h.later hb) (plan := [[(0, none)], [(5, none)], [(17, some 0), (18, some 1)], [(19, some 2)], [(20, some 3)], [(1, none)], [(5, none)], [(22, some 5), (23, some 6)], [(24, some 7)], [(25, some 8)], [(21, some 4), (26, some 9)], [(27, some 10)], [(0, none)], [(5, none)], [(29, some 12), (30, some 13)], [(31, some 14)], [(32, some 15)], [(1, none)], [(5, none)], [(34, some 17), (35, some 18)], [(36, some 19)], [(37, some 20)], [(33, some 16), (38, some 21)], [(39, some 22)], [(28, some 11), (40, some 23)]]) (by kernel_rfl) (by kernel_rfl) (by kernel_rfl) ?hS ?_
      rotate_left
      iterate 25 first
        | (refine chain_skip (by rfl) (by rfl) ?_)
        | (apply chain_want (by rfl)
           · intro act wx hS hr
             simp at hr
             obtain ⟨x0, x1⟩ := br_cell hS.a.row j d HGA.out
             obtain ⟨y0, y1⟩ := br_cell hS.b.row j e HGB.out
             rw [← m1] at y1
             go_simp
             (try go_ints)
             first
               | ((with_reducible refine (HSM.out _ hS).mono ?_); rintro e w' ⟨rfl, hb⟩; exact Done.mk hb)
               | exact Done.same
          )
      show ∀ w', _ → _
      intro wz hz
      simp [Act.put]
      case hS => exact HH.out
      have HZ := Lib.hid hz
      clear hz HH
      go_wp2
      go_roundw
      case rel => exact ⟨j + 1, HLT.out, by go_num, HZ.out⟩
      case measure => have := HLT.out; simp [intOf] <;> omega
    · obtain rfl : j = D.length := by omega
      have hz : ¬ ((D.length : Nat) : Int) < (D.length : Int) := by omega
      clear hlt hj
      go_wp2
      go_ret
      exact ⟨rfl, HH.out.bel⟩
end Go.Proofs.Ytidoofdofdhjpaa
/- What the statements of next share: what fits, a state of a walk with a rest. -/
namespace Go.Proofs.Ytidoofdofdhjpaa
open Go Go.RowKit
set_option linter.unusedVariables false
set_option linter.unusedSimpArgs false
set_option maxRecDepth 1000000
set_option maxHeartbeats 64000000

theorem u8_back {n : Nat} (h : n < 256) : (UInt8.ofNat n).toNat = n := by
  rw [UInt8.toNat_ofNat']; exact Nat.mod_eq_of_lt h
theorem rfits15_any (l : List Nd) (A : Option Addr) (c : Nat) (s : List Itm) (B : Option Addr) (c2 : Nat) (hlen : l.length ≤ 1073741824) (hsl : s.length ≤ 9223372036854775807) (htx : Txt l) (w : World) (hrow : NRow w A l) (hs : ItRow w B s) :
    Calls Try.prog 10 #[.agg #[.slice A l.length c], .slice B s.length c2] w (Ans w (.bool (fitB l s))) := by
  have HS := Lib.hid (HtwS.new c hrow hs)
  have HF := Lib.hid (rfits14_any l A c s B c2 hlen hsl htx _ HS.out.f.row HS.out.rs)
  clear hrow hs htx
  go_enter Try.func10, Try.ntmps10
  go_upto_region 1 with (fail)
  generalize w.alloc (.cells #[.slice A l.length c] 24) = w1 at HS HF ⊢
  have e0 := HS.out.f.box.cell 0
  simp at e0
  go_wp2_with fail
  refine HF.out.mono ?_; rintro e w2 ⟨rfl, hb⟩
  have HB := Lib.hid (HS.out.f.bel.trans (hb.mono HS.out.f.bel.size))
  clear hb
  go_wp2
  go_ret
  exact ⟨rfl, HB.out⟩
structure NxvS (w0 : World) (A : Option Addr) (l : List Nd) (c : Nat) (B : Option Addr) (s : List Itm) (P : World → Prop) (w : World) : Prop where
  h : HtwS w0 A l c B s w
  p : P w
  pl : ∀ w w', P w → Below w.heap.size w w' → P w'
section
variable {w0 w w' : World} {A B : Option Addr} {l : List Nd} {c : Nat} {s : List Itm} {P Q : World → Prop}
theorem NxvS.later (h : NxvS w0 A l c B s P w) (hb : Below w.heap.size w w') : NxvS w0 A l c B s P w' := ⟨h.h.later hb, h.pl _ _ h.p hb, h.pl⟩
theorem NxvS.add (h : NxvS w0 A l c B s P w) (hq : Q w) (hl : ∀ w w', Q w → Below w.heap.size w w' → Q w') : NxvS w0 A l c B s (fun w => P w ∧ Q w) w :=
  ⟨h.h, ⟨h.p, hq⟩, fun w w' k hb => ⟨h.pl w w' k.1 hb, hl w w' k.2 hb⟩⟩
end
theorem on_len {l : List Nd} {s : List Itm} {c : UInt8} : (brsL (onL l s c)).length ≤ (hdsL l s).length := by
  rw [← rd_on]
  have h1 := gt_len (rdB l c (hdsL l s)) []
  have h2 : (rdB l c (hdsL l s)).length ≤ (hdsL l s).length := List.length_filterMap_le _ _
  simp only [List.length_nil, Nat.add_zero] at h1
  omega
theorem on_few {l : List Nd} (hR : Rgt l) {s : List Itm} (hs : ∀ y ∈ s, HdF l y) (hl : l.length ≤ 24) (hs8 : s.length ≤ 200) (c : UInt8) : (brsL (onL l s c)).length ≤ 5000 := by
  have h1 := on_len (l := l) (s := s) (c := c)
  have h2 := hds_len hR hs
  have h3 : s.length * l.length ≤ 200 * 24 := Nat.mul_le_mul hs8 hl
  omega
/-- On, known. -/
theorem on_call {l : List Nd} {A : Option Addr} {c : Nat} (hR : Rgt l) (hlen : l.length ≤ 300) (htx : Txt l) (u : UInt8) {s : List Itm} {B : Option Addr} {c2 : Nat} (hs : ∀ y ∈ s, HdF l y) (hsl : s.length ≤ 200) {w : World} (hrow : NRow w A l) (hss : ItRow w B s) :
    Calls Try.prog 14 #[.agg #[.slice A l.length c], .slice B s.length c2, .int .u8 (u.toNat : Int)] w (fun e w' => ∃ v, e = .returned v ∧ BrV (brsL (onL l s u)) v w' ∧ Below w.heap.size w w') :=
  (nxOn_any l A c s B c2 u hR hlen htx hs hsl w hrow hss).mono fun e w' h => brs_known (by omega) h
end Go.Proofs.Ytidoofdofdhjpaa
/- The statement NextClasses of layer 15, walked. -/
namespace Go.Proofs.Ytidoofdofdhjpaa
open Go Go.RowKit
set_option linter.unusedVariables false
set_option linter.unusedSimpArgs false
set_option maxRecDepth 1000000
set_option maxHeartbeats 64000000

theorem cls_at {w : World} {b o : Nat} {l : List (BitVec 256)} (h : LRow w (some ⟨b, o, none⟩) l) {j : Nat} (hj : j < l.length) : w.cell? ⟨b, o + j * 4, none⟩ = some (.int .u64 (wd (l.getD j 0) 0)) ∧ w.cell? ⟨b, o + j * 4 + 1, none⟩ = some (.int .u64 (wd (l.getD j 0) 1)) ∧ w.cell? ⟨b, o + j * 4 + 2, none⟩ = some (.int .u64 (wd (l.getD j 0) 2)) ∧ w.cell? ⟨b, o + j * 4 + 3, none⟩ = some (.int .u64 (wd (l.getD j 0) 3)) := by
  obtain ⟨b', o', e, -, h2⟩ := h j hj
  cases e
  exact ⟨h2 0 (by omega), h2 1 (by omega), h2 2 (by omega), h2 3 (by omega)⟩
/-- No class so far tells the bytes apart. -/
def NxcL (w0 : World) (A : Option Addr) (l : List Nd) (c : Nat) (B : Option Addr) (s : List Itm) (P : World → Prop) (L : List (BitVec 256)) (a b : UInt8) (i : Value) (w : World) : Prop :=
  ∃ j : Nat, j ≤ L.length ∧ i = .int .i64 (j : Int) ∧ (∀ k, k < j → (L.getD k 0).getLsbD a.toNat = (L.getD k 0).getLsbD b.toNat) ∧ NxvS w0 A l c B s P w
theorem nextclasses_walk (l : List Nd) (A : Option Addr) (c : Nat) (s : List Itm) (B : Option Addr) (c2 : Nat) (a b : UInt8) (hc1 : l.length ≤ c) (hl : l.length ≤ 9223372036854775807) (htx : Txt l) (h1 : s.length ≤ 9223372036854775807) (hc2 : s.length ≤ c2) (w : World) (hrow : NRow w A l) (hs : ItRow w B s) :
    Calls Try.prog 3 #[.agg #[.slice A l.length c], .slice B s.length c2, .int .u8 (a.toNat : Int), .int .u8 (b.toNat : Int)] w (Ans w (.bool true)) := by
  have HS : Hid (HtwS w A l c B s (w.alloc (.cells #[.slice A l.length c] 24))) := HtwS.new c hrow hs
  have HAW := Lib.hid (fun w => awake15_any w)
  have HTX := Lib.hid htx
  have HL9 := Lib.hid h1
  have HC2 := Lib.hid hc2
  clear hrow hs htx h1 hc2
  go_enter Try.func3, Try.ntmps3
  go_upto_region 1 with (fail)
  generalize w.alloc (.cells #[.slice A l.length c] 24) = w1 at HS ⊢
  have e0 := HS.out.f.box.cell 0
  simp at e0
  go_wp2_with fail
  refine ((HAW.out _)).mono ?_; rintro e w2 ⟨rfl, hb⟩
  have HS2 := Lib.hid (HS.out.later hb)
  clear hb e0 HS
  have HS := HS2
  clear HS2
  have e0 := HS.out.f.box.cell 0
  simp at e0
  have HF := Lib.hid (few_any l A c hl HTX.out _ HS.out.f.row)
  cases hf : fewB l with
  | false =>
    rw [hf] at HF
    clear hf
    go_wp2_with fail
    refine ((HF.out)).mono ?_; rintro e w2 ⟨rfl, hb⟩
    have HS2 := Lib.hid (HS.out.later hb)
    clear hb e0 HS
    have HS := HS2
    clear HS2
    have e0 := HS.out.f.box.cell 0
    simp at e0
    go_wp2_with fail
    refine ((HAW.out _)).mono ?_; rintro e w2 ⟨rfl, hb⟩
    have HS2 := Lib.hid (HS.out.later hb)
    clear hb e0 HS
    have HS := HS2
    clear HS2
    have e0 := HS.out.f.box.cell 0
    simp at e0
    go_wp2
    go_ret
    exact ⟨rfl, HS.out.f.bel⟩
  | true =>
    rw [hf] at HF
    have L1 := Lib.hid (few_txt hf).1
    clear hf
    go_wp2_with fail
    refine ((HF.out)).mono ?_; rintro e w2 ⟨rfl, hb⟩
    have HS2 := Lib.hid (HS.out.later hb)
    clear hb e0 HS
    have HS := HS2
    clear HS2
    have e0 := HS.out.f.box.cell 0
    simp at e0
    clear HF
    have HF := Lib.hid (rright_any l A c hc1 (by have := L1.out; omega) HTX.out _ HS.out.f.row)
    cases hf : rgB l with
    | false =>
      rw [hf] at HF
      clear hf
      go_wp2_with fail
      refine ((HF.out)).mono ?_; rintro e w2 ⟨rfl, hb⟩
      have HS2 := Lib.hid (HS.out.later hb)
      clear hb e0 HS
      have HS := HS2
      clear HS2
      have e0 := HS.out.f.box.cell 0
      simp at e0
      go_wp2_with fail
      refine ((HAW.out _)).mono ?_; rintro e w2 ⟨rfl, hb⟩
      have HS2 := Lib.hid (HS.out.later hb)
      clear hb e0 HS
      have HS := HS2
      clear HS2
      have e0 := HS.out.f.box.cell 0
      simp at e0
      go_wp2
      go_ret
      exact ⟨rfl, HS.out.f.bel⟩
    | true =>
      rw [hf] at HF
      have HR := Lib.hid ((rgB_iff l).1 hf)
      clear hf
      go_wp2_with fail
      refine ((HF.out)).mono ?_; rintro e w2 ⟨rfl, hb⟩
      have HS2 := Lib.hid (HS.out.later hb)
      clear hb e0 HS
      have HS := HS2
      clear HS2
      have e0 := HS.out.f.box.cell 0
      simp at e0
      clear HF
      have HF := Lib.hid (rfits15_any l A c s B c2 (by have := L1.out; omega) HL9.out HTX.out _ HS.out.f.row HS.out.rs)
      cases hf : fitB l s with
      | false =>
        rw [hf] at HF
        clear hf
        go_wp2_with fail
        refine ((HF.out)).mono ?_; rintro e w2 ⟨rfl, hb⟩
        have HS2 := Lib.hid (HS.out.later hb)
        clear hb e0 HS
        have HS := HS2
        clear HS2
        have e0 := HS.out.f.box.cell 0
        simp at e0
        go_wp2_with fail
        refine ((HAW.out _)).mono ?_; rintro e w2 ⟨rfl, hb⟩
        have HS2 := Lib.hid (HS.out.later hb)
        clear hb e0 HS
        have HS := HS2
        clear HS2
        have e0 := HS.out.f.box.cell 0
        simp at e0
        go_wp2
        go_ret
        exact ⟨rfl, HS.out.f.bel⟩
      | true =>
        rw [hf] at HF
        obtain ⟨⟨hl24, hs8⟩, hst⟩ := fit_iff.1 hf
        have HFO := Lib.hid (stF_form hst)
        have HLN := Lib.hid hl24
        have HSL := Lib.hid hs8
        clear hf hst
        go_wp2_with fail
        refine ((HF.out)).mono ?_; rintro e w2 ⟨rfl, hb⟩
        have HS2 := Lib.hid (HS.out.later hb)
        clear hb e0 HS
        have HS := HS2
        clear HS2
        have e0 := HS.out.f.box.cell 0
        simp at e0
        clear HF
        have HCL := Lib.hid (nxClasses_any l A c s B c2 HR.out (by omega) HTX.out HFO.out (by omega) _ HS.out.f.row HS.out.rs)
        have HSAME : Hid ((∀ C ∈ hcL l (hdsL l s), C.getLsbD a.toNat = C.getLsbD b.toNat) → onL l s a = onL l s b) := fun h => on_same HR.out HFO.out fun t ht C hC => by
          have h1 : t ∈ (hdsL l s).map Prod.fst := (brsL_keys _ _).2 ht
          obtain ⟨x, hx, rfl⟩ := List.mem_map.1 h1
          exact h C (List.mem_flatMap.2 ⟨x, hx, hC⟩)
        have HLL : Hid ((hcL l (hdsL l s)).length ≤ 100000) := by
          have h1 := hc_len (l := l) (hdsL l s)
          have h2 := hds_len HR.out HFO.out
          have h3 : s.length * l.length ≤ 8 * 24 := Nat.mul_le_mul hs8 hl24
          unfold Hid; omega
        generalize hcL l (hdsL l s) = L at *
        go_wp2_with fail
        refine HCL.out.mono ?_; rintro e w3 hp
        obtain ⟨v, rfl, ⟨AL, kL, rfl, hL⟩, hb⟩ := cls_known hp
        have HS2 : Hid (NxvS w A l c B s (fun w => LRow w AL L) w3) := ⟨HS.out.later hb, hL, fun _ _ h hb => h.later hb⟩
        clear hb hp hL HS HCL e0
        have HS := HS2
        clear HS2
        have hll : L.length ≤ 100000 := HLL.out
        have ha := a.toNat_lt
        have hbq := b.toNat_lt
        go_wp2
        go_loopw [10] (NxcL w A l c B s (fun w => LRow w AL L) L a b) (fun i _ => L.length - (intOf i).toNat)
        case atStart => exact ⟨0, Nat.zero_le _, rfl, (fun k hk => by omega), HS.out⟩
        case round =>
          obtain ⟨j, hj, rfl, hall, hh⟩ := hrel
          have HH := Lib.hid hh
          have HALL := Lib.hid hall
          clear hh hall HS
          by_cases hlt : j < L.length
          · have hz : (j : Int) < (L.length : Int) := by omega
            have HLT := Lib.hid hlt
            obtain ⟨bl, ol, rfl, -⟩ := HH.out.p.cells j hlt
            have F1 := Lib.hid (fun w (h : LRow w (some ⟨bl, ol, none⟩) L) => cls_at h hlt)
            obtain ⟨ga, hga⟩ : ∃ ga, (L.getD j 0).getLsbD a.toNat = ga := ⟨_, rfl⟩
            obtain ⟨gb, hgb⟩ : ∃ gb, (L.getD j 0).getLsbD b.toNat = gb := ⟨_, rfl⟩
            have HHA := Lib.hid (fun w => refhas_any (L.getD j 0) a.toNat ha w)
            have HHB := Lib.hid (fun w => refhas_any (L.getD j 0) b.toNat hbq w)
            rw [hga] at HHA
            rw [hgb] at HHB
            have HNX : Hid (ga = gb → ∀ k, k < j + 1 → (L.getD k 0).getLsbD a.toNat = (L.getD k 0).getLsbD b.toNat) := fun h k hk => by
              by_cases hkj : k < j
              · exact HALL.out k hkj
              · obtain rfl : k = j := by omega
                rw [hga, hgb, h]
            clear hga hgb hlt hj
            generalize L.getD j 0 = x at *
            go_upto_region 7 with (fail)
            by_cases hab : ga = gb
            · have hne : (ga != gb) = false := by rw [hab]; cases gb <;> rfl
              refine wp_region_stable (S := (NxvS w A l c B s (fun w => LRow w (some ⟨bl, ol, none⟩) L))) (hSt := fun _ _ h hb => h.later hb) (plan := [[(9, none)], [(10, none)], [(39, some 0), (40, some 1)], [(41, some 2)], [(2, none)], [(42, some 3), (43, some 4)], [(9, none)], [(10, none)], [(45, some 6), (46, some 7)], [(47, some 8)], [(3, none)], [(48, some 9), (49, some 10)], [(44, some 5), (50, some 11)]]) (by kernel_rfl) (by kernel_rfl) (by kernel_rfl) ?hS ?_
              rotate_left
              iterate 13 first
                | (refine chain_skip (by rfl) (by rfl) ?_)
                | (apply chain_want (by rfl)
                   · intro act wx hS hr
                     simp at hr
                     have g1 := F1.out _ hS.p
                     obtain ⟨g0, g1, g2, g3⟩ := g1
                     go_simp
                     (try go_ints)
                     first
                       | exact Done.same (v := cls _)
                       | ((with_reducible refine (HHA.out _).mono ?_); rintro e w' ⟨rfl, hb⟩; exact Done.mk hb)
                       | ((with_reducible refine (HHB.out _).mono ?_); rintro e w' ⟨rfl, hb⟩; exact Done.mk hb)
                       | exact Done.same
                  )
              show ∀ w', _ → _
              intro wz hz
              simp [Act.put]
              case hS => exact HH.out
              have HZ := Lib.hid hz
              have HN2 := Lib.hid (HNX.out hab)
              clear hz HNX HH
              go_wp2
              go_roundw
              case rel => exact ⟨j + 1, HLT.out, by go_num, HN2.out, HZ.out⟩
              case measure => have := HLT.out; simp [intOf] <;> omega
            · have hcs : (ga = true ∧ gb = false) ∨ (ga = false ∧ gb = true) := by
                cases ga <;> cases gb <;> simp at hab ⊢
              clear HNX hab
              rcases hcs with ⟨rfl, rfl⟩ | ⟨rfl, rfl⟩
              · skip
                refine wp_region_stable (S := (NxvS w A l c B s (fun w => LRow w (some ⟨bl, ol, none⟩) L))) (hSt := fun _ _ h hb => h.later hb) (plan := [[(9, none)], [(10, none)], [(39, some 0), (40, some 1)], [(41, some 2)], [(2, none)], [(42, some 3), (43, some 4)], [(9, none)], [(10, none)], [(45, some 6), (46, some 7)], [(47, some 8)], [(3, none)], [(48, some 9), (49, some 10)], [(44, some 5), (50, some 11)]]) (by kernel_rfl) (by kernel_rfl) (by kernel_rfl) ?hS ?_
                rotate_left
                iterate 13 first
                  | (refine chain_skip (by rfl) (by rfl) ?_)
                  | (apply chain_want (by rfl)
                     · intro act wx hS hr
                       simp at hr
                       have g1 := F1.out _ hS.p
                       obtain ⟨g0, g1, g2, g3⟩ := g1
                       go_simp
                       (try go_ints)
                       first
                         | exact Done.same (v := cls _)
                         | ((with_reducible refine (HHA.out _).mono ?_); rintro e w' ⟨rfl, hb⟩; exact Done.mk hb)
                         | ((with_reducible refine (HHB.out _).mono ?_); rintro e w' ⟨rfl, hb⟩; exact Done.mk hb)
                         | exact Done.same
                    )
                show ∀ w', _ → _
                intro wz hz
                simp [Act.put]
                case hS => exact HH.out
                have HZ := Lib.hid hz.h.f.bel
                clear hz HH
                go_wp2
                go_ret
                exact ⟨rfl, HZ.out⟩
              · skip
                refine wp_region_stable (S := (NxvS w A l c B s (fun w => LRow w (some ⟨bl, ol, none⟩) L))) (hSt := fun _ _ h hb => h.later hb) (plan := [[(9, none)], [(10, none)], [(39, some 0), (40, some 1)], [(41, some 2)], [(2, none)], [(42, some 3), (43, some 4)], [(9, none)], [(10, none)], [(45, some 6), (46, some 7)], [(47, some 8)], [(3, none)], [(48, some 9), (49, some 10)], [(44, some 5), (50, some 11)]]) (by kernel_rfl) (by kernel_rfl) (by kernel_rfl) ?hS ?_
                rotate_left
                iterate 13 first
                  | (refine chain_skip (by rfl) (by rfl) ?_)
                  | (apply chain_want (by rfl)
                     · intro act wx hS hr
                       simp at hr
                       have g1 := F1.out _ hS.p
                       obtain ⟨g0, g1, g2, g3⟩ := g1
                       go_simp
                       (try go_ints)
                       first
                         | exact Done.same (v := cls _)
                         | ((with_reducible refine (HHA.out _).mono ?_); rintro e w' ⟨rfl, hb⟩; exact Done.mk hb)
                         | ((with_reducible refine (HHB.out _).mono ?_); rintro e w' ⟨rfl, hb⟩; exact Done.mk hb)
                         | exact Done.same
                    )
                show ∀ w', _ → _
                intro wz hz
                simp [Act.put]
                case hS => exact HH.out
                have HZ := Lib.hid hz.h.f.bel
                clear hz HH
                go_wp2
                go_ret
                exact ⟨rfl, HZ.out⟩
          · obtain rfl : j = L.length := by omega
            have hz : ¬ ((L.length : Nat) : Int) < (L.length : Int) := by omega
            have HEQ : Hid (onL l s a = onL l s b) := HSAME.out fun C hC => by
              obtain ⟨k, hk, rfl⟩ := List.mem_iff_getElem.1 hC
              have := HALL.out k hk
              rwa [List.getD_eq_getElem?_getD, List.getElem?_eq_getElem hk] at this
            have HFEW : Hid ((brsL (onL l s a)).length ≤ 5000) := on_few HR.out HFO.out HLN.out (by have := HSL.out; omega) a
            have HOA : Hid (∀ w', NRow w' A l → ItRow w' B s → Calls Try.prog 14 #[.agg #[.slice A l.length c], .slice B s.length c2, .int .u8 (a.toNat : Int)] w' (fun e w'' => ∃ v, e = .returned v ∧ BrV (brsL (onL l s a)) v w'' ∧ Below w'.heap.size w' w'')) := fun w' h1 h2 => on_call HR.out (by have := HLN.out; omega) HTX.out a HFO.out (by have := HSL.out; omega) h1 h2
            have HOB : Hid (∀ w', NRow w' A l → ItRow w' B s → Calls Try.prog 14 #[.agg #[.slice A l.length c], .slice B s.length c2, .int .u8 (b.toNat : Int)] w' (fun e w'' => ∃ v, e = .returned v ∧ BrV (brsL (onL l s a)) v w'' ∧ Below w'.heap.size w' w'')) := fun w' h1 h2 => by
              have := on_call HR.out (by have := HLN.out; omega) HTX.out b HFO.out (by have := HSL.out; omega) h1 h2 (A := A) (c := c) (c2 := c2)
              rw [← HEQ.out] at this; exact this
            generalize brsL (onL l s a) = T at *
            clear HALL hlt hj HSAME HEQ
            generalize a.toNat = an at *
            generalize b.toNat = bn at *
            go_upto_region 9 with (fail)
            refine wp_region_stable (S := (NxvS w A l c B s (fun w => LRow w AL L))) (hSt := fun _ _ h hb => h.later hb) (plan := [[(4, none)], [(1, none)], [(2, none)], [(52, some 0), (53, some 1), (54, some 2)], [(4, none)], [(1, none)], [(3, none)], [(56, some 4), (57, some 5), (58, some 6)], [(55, some 3), (59, some 7)], [(60, some 8)]]) (by kernel_rfl) (by kernel_rfl) (by kernel_rfl) ?hS ?_
            rotate_left
            iterate 3 first
              | (refine chain_skip (by rfl) (by rfl) ?_)
              | (apply chain_want (by rfl)
                 · intro act wx hS hr
                   simp at hr
                   have e0 := hS.h.f.box.cell 0
                   simp at e0
                   go_simp
                   (try go_ints)
                   first
                     | exact Done.same
                )
            (refine chain_rel (BrV T) (BrV.later T) (by rfl) ?_ ?_
             · intro act wx hS hr
               simp at hr
               have e0 := hS.h.f.box.cell 0
               simp at e0
               all_goals go_simp
               with_reducible refine Calls.mono (HOA.out _ hS.h.f.row hS.h.rs) ?_
               rintro e w' ⟨v, rfl, hv, hb⟩
               exact Done.rel hb hv
            )
            iterate 3 first
              | (refine chain_skip (by rfl) (by rfl) ?_)
              | (apply chain_want (by rfl)
                 · intro act wx hS hr
                   simp at hr
                   have e0 := hS.h.f.box.cell 0
                   simp at e0
                   go_simp
                   (try go_ints)
                   first
                     | exact Done.same
                )
            (refine chain_rel (BrV T) (BrV.later T) (by rfl) ?_ ?_
             · intro act wx hS hr
               simp at hr
               have e0 := hS.h.f.box.cell 0
               simp at e0
               all_goals go_simp
               with_reducible refine Calls.mono (HOB.out _ hS.h.f.row hS.h.rs) ?_
               rintro e w' ⟨v, rfl, hv, hb⟩
               exact Done.rel hb hv
            )
            (refine chain_rel (NbV true) (NbV.later true) (by rfl) ?_ ?_
             · intro act wx hS hr
               simp at hr
               have e0 := hS.h.f.box.cell 0
               simp at e0
               obtain ⟨⟨v1, hr1, A1, k1, D1, rfl, q1⟩, v2, hr2, A2, k2, D2, rfl, q2⟩ := hr
               all_goals go_simp
               (refine (rsame14_any T A1 A2 D1 D2 k1 k2 (by have h1 := congrArg List.length q1.brs; rw [List.length_map] at h1; have := HFEW.out; omega) _ q1 q2).mono ?_)
               rintro e w' ⟨rfl, hb⟩
               exact Done.rel (p := NbV true) hb rfl
            )
            (refine chain_rel (NbV true) (NbV.later true) (by rfl) ?_ ?_
             · intro act wx hS hr
               simp at hr
               have e0 := hS.h.f.box.cell 0
               simp at e0
               obtain ⟨v1, hr, rfl⟩ := hr
               all_goals go_simp
               exact Done.rel (p := NbV true) (Below.refl _ _) rfl
            )
            show ∀ w', _ → _
            intro wz hz
            simp [Act.put]
            case hS => exact HH.out
            intro _ _ _ _ _ _ v9 hv9
            obtain rfl : v9 = .bool true := hv9
            have HZ := Lib.hid hz.h.f.bel
            clear hz HH
            go_wp2
            go_ret
            exact ⟨rfl, HZ.out⟩
theorem nextclasses_row (l : List Nd) (A : Option Addr) (c : Nat) (s : List Itm) (B : Option Addr) (c2 : Nat) (a b : Nat) (ha : a < 256) (hb : b < 256) (hc1 : l.length ≤ c) (hl : l.length ≤ 9223372036854775807) (htx : Txt l) (h1 : s.length ≤ 9223372036854775807) (hc2 : s.length ≤ c2) (w : World) (hrow : NRow w A l) (hs : ItRow w B s) :
    Calls Try.prog 3 #[.agg #[.slice A l.length c], .slice B s.length c2, .int .u8 (a : Int), .int .u8 (b : Int)] w (Ans w (.bool true)) := by
  have h := nextclasses_walk l A c s B c2 (UInt8.ofNat a) (UInt8.ofNat b) hc1 hl htx h1 hc2 w hrow hs
  rw [u8_back ha, u8_back hb] at h
  exact h
end Go.Proofs.Ytidoofdofdhjpaa
