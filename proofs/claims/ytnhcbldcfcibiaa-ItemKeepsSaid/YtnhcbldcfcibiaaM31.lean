/- The statement ItemLowers of layer 13, walked. -/
import Derived.Test.YtnhcbldcfcibiaaM30
import Derived.Test.YtnhcbldcfcibiaaM29
namespace Go.Proofs.Ytnhcbldcfcibiaa
open Go Go.RowKit
set_option linter.unusedVariables false
set_option linter.unusedSimpArgs false
set_option maxRecDepth 1000000
set_option maxHeartbeats 64000000

structure ItwS (w0 : World) (A : Option Addr) (l : List Nd) (c : Nat) (B : Option Addr) (s : List Itm) (w : World) : Prop where
  f : FstS w0 A l c w
  rs : ItRow w B s
theorem ItwS.later {w0 w w' : World} {A B : Option Addr} {l : List Nd} {c : Nat} {s : List Itm} (h : ItwS w0 A l c B s w) (hb : Below w.heap.size w w') : ItwS w0 A l c B s w' := ⟨h.f.later hb, h.rs.later hb⟩
structure ItwA (w0 : World) (A : Option Addr) (l : List Nd) (c : Nat) (B : Option Addr) (s : List Itm) (D : Option Addr) (m : List Itm) (w : World) : Prop where
  i : ItwS w0 A l c B s w
  ra : ItRow w D m
theorem ItwA.later {w0 w w' : World} {A B D : Option Addr} {l : List Nd} {c : Nat} {s m : List Itm} (h : ItwA w0 A l c B s D m w) (hb : Below w.heap.size w w') : ItwA w0 A l c B s D m w' := ⟨h.i.later hb, h.ra.later hb⟩
/-- .. and the item at hand, in its box. -/
structure ItwX (w0 : World) (A : Option Addr) (l : List Nd) (c : Nat) (B : Option Addr) (s : List Itm) (D : Option Addr) (m : List Itm) (bx : Nat) (x : Itm) (w : World) : Prop where
  i : ItwA w0 A l c B s D m w
  bx : Blk w bx (itV x) 36
theorem ItwX.later {w0 w w' : World} {A B D : Option Addr} {l : List Nd} {c : Nat} {s m : List Itm} {bx : Nat} {x : Itm} (h : ItwX w0 A l c B s D m bx x w) (hb : Below w.heap.size w w') : ItwX w0 A l c B s D m bx x w' := ⟨h.i.later hb, h.bx.later hb⟩
def ItwL (w0 : World) (A : Option Addr) (l : List Nd) (c : Nat) (B : Option Addr) (s : List Itm) (n i : Value) (w : World) : Prop := ∃ k : Nat, k ≤ s.length ∧ i = .int .i64 (k : Int) ∧ n = .int .i64 (nrL (s.take k)) ∧ ItwS w0 A l c B s w
def ItwM (w0 : World) (A : Option Addr) (l : List Nd) (c : Nat) (B : Option Addr) (s : List Itm) (D : Option Addr) (m : List Itm) (i : Value) (w : World) : Prop := ∃ k : Nat, k ≤ s.length ∧ i = .int .i64 (k : Int) ∧ ItwA w0 A l c B s D m w
def ItwN (w0 : World) (A : Option Addr) (l : List Nd) (c : Nat) (B : Option Addr) (s : List Itm) (N : Nat) (a n : Value) (w : World) : Prop := ∃ (k : Nat) (D : Option Addr) (cd : Nat), 1 ≤ k ∧ k ≤ N ∧ k ≤ 300 ∧ n = .int .i64 (k : Int) ∧ a = .slice D s.length cd ∧ ItwA w0 A l c B s D (s.map (dwI k)) w
theorem lowp_get {w0 w : World} {l m : List Itm} {e : Ending} (h : LowP w0 l e w) (hm : lowS l = some m) : ∃ a cap, e = .returned (.tuple #[.slice a l.length cap, .bool true]) ∧ ItRow w a m ∧ Below w0.heap.size w0 w := by
  obtain ⟨a, cap, h1, -, h2, -, h3⟩ := h.some hm
  have : m.length = l.length := by
    unfold lowS at hm; split at hm
    · cases hm; simp
    · cases hm
  rw [this] at h1
  exact ⟨a, cap, h1, h2, h3⟩
theorem itemlowers_walk (l : List Nd) (A : Option Addr) (c : Nat) (s : List Itm) (B : Option Addr) (c2 : Nat) (hc1 : l.length ≤ c) (hl : l.length ≤ 9223372036854775807) (htx : Txt l) (h1 : s.length ≤ 9223372036854775807) (os : ItOk s) (w : World) (hrow : NRow w A l) (hs : ItRow w B s) :
    Calls Try.prog 5 #[.agg #[.slice A l.length c], .slice B s.length c2] w (Ans w (.bool true)) := by
  have hbb := (Below.refl w.heap.size w).alloc (Nat.le_refl _) (.cells #[.slice A l.length c] 24)
  have HS : Hid (ItwS w A l c B s (w.alloc (.cells #[.slice A l.length c] 24))) := ⟨⟨hbb, hrow.later hbb, Blk.new _ _ _⟩, hs.later hbb⟩
  have HAW := Lib.hid (fun w => awake13_any w)
  have HTX := Lib.hid htx
  have HOS := Lib.hid os
  clear hbb hrow hs htx os
  go_enter Try.func5, Try.ntmps5
  go_upto_region 1 with (fail)
  generalize w.alloc (.cells #[.slice A l.length c] 24) = w1 at HS ⊢
  have e0 := HS.out.f.box.cell 0
  simp at e0
  go_wp2_with fail
  refine ((HAW.out _)).mono ?_; rintro e w2 ⟨rfl, hb⟩
  have HS2 := Lib.hid (HS.out.later hb)
  clear hb e0 HS
  have HS := HS2
  clear HS2
  have e0 := HS.out.f.box.cell 0
  simp at e0
  have HF := Lib.hid (few_any l A c hl HTX.out _ HS.out.f.row)
  cases hf : fewB l with
  | false =>
    rw [hf] at HF
    clear hf
    go_wp2_with fail
    refine ((HF.out)).mono ?_; rintro e w2 ⟨rfl, hb⟩
    have HS2 := Lib.hid (HS.out.later hb)
    clear hb e0 HS
    have HS := HS2
    clear HS2
    have e0 := HS.out.f.box.cell 0
    simp at e0
    go_wp2_with fail
    refine ((HAW.out _)).mono ?_; rintro e w2 ⟨rfl, hb⟩
    have HS2 := Lib.hid (HS.out.later hb)
    clear hb e0 HS
    have HS := HS2
    clear HS2
    have e0 := HS.out.f.box.cell 0
    simp at e0
    go_wp2
    go_ret
    exact ⟨rfl, HS.out.f.bel⟩
  | true =>
    rw [hf] at HF
    have L1 := Lib.hid (few_txt hf).1
    clear hf
    go_wp2_with fail
    refine ((HF.out)).mono ?_; rintro e w2 ⟨rfl, hb⟩
    have HS2 := Lib.hid (HS.out.later hb)
    clear hb e0 HS
    have HS := HS2
    clear HS2
    have e0 := HS.out.f.box.cell 0
    simp at e0
    clear HF
    have HF := Lib.hid (rright_any l A c hc1 (by have := L1.out; omega) HTX.out _ HS.out.f.row)
    cases hf : rgB l with
    | false =>
      rw [hf] at HF
      clear hf
      go_wp2_with fail
      refine ((HF.out)).mono ?_; rintro e w2 ⟨rfl, hb⟩
      have HS2 := Lib.hid (HS.out.later hb)
      clear hb e0 HS
      have HS := HS2
      clear HS2
      have e0 := HS.out.f.box.cell 0
      simp at e0
      go_wp2_with fail
      refine ((HAW.out _)).mono ?_; rintro e w2 ⟨rfl, hb⟩
      have HS2 := Lib.hid (HS.out.later hb)
      clear hb e0 HS
      have HS := HS2
      clear HS2
      have e0 := HS.out.f.box.cell 0
      simp at e0
      go_wp2
      go_ret
      exact ⟨rfl, HS.out.f.bel⟩
    | true =>
      rw [hf] at HF
      have hlen := L1.out
      clear hf
      by_cases ga : s.length ≤ 30
      · have za : ¬ (s.length : Int) > 30 := by omega
        go_wp2_with fail
        refine ((HF.out)).mono ?_; rintro e w2 ⟨rfl, hb⟩
        have HS2 := Lib.hid (HS.out.later hb)
        clear hb e0 HS
        have HS := HS2
        clear HS2
        have e0 := HS.out.f.box.cell 0
        simp at e0
        clear HF
        have HF := Lib.hid (riform_any l A c s B c2 (by omega) (by omega) HTX.out _ HS.out.f.row HS.out.rs)
        cases hf : stF l s with
        | false =>
          rw [hf] at HF
          clear hf
          go_wp2_with fail
          refine ((HF.out)).mono ?_; rintro e w2 ⟨rfl, hb⟩
          have HS2 := Lib.hid (HS.out.later hb)
          clear hb e0 HS
          have HS := HS2
          clear HS2
          have e0 := HS.out.f.box.cell 0
          simp at e0
          go_wp2_with fail
          refine ((HAW.out _)).mono ?_; rintro e w2 ⟨rfl, hb⟩
          have HS2 := Lib.hid (HS.out.later hb)
          clear hb e0 HS
          have HS := HS2
          clear HS2
          have e0 := HS.out.f.box.cell 0
          simp at e0
          go_wp2
          go_ret
          exact ⟨rfl, HS.out.f.bel⟩
        | true =>
          rw [hf] at HF
          have HEO := Lib.hid (stF_endok hf)
          have HDW := Lib.hid (fun (k : Nat) => stF_dw (k := k) hf)
          clear hf
          go_wp2_with fail
          refine ((HF.out)).mono ?_; rintro e w2 ⟨rfl, hb⟩
          have HS2 := Lib.hid (HS.out.later hb)
          clear hb e0 HS
          have HS := HS2
          clear HS2
          have e0 := HS.out.f.box.cell 0
          simp at e0
          clear HF e0
          have hslz : s.length ≤ 30 := ga
          clear ga
          go_wp2
          go_loopw [5, 6] (ItwL w A l c B s) (fun _ i _ => s.length - (intOf i).toNat)
          case atStart => exact ⟨0, Nat.zero_le _, rfl, rfl, HS.out⟩
          case round =>
            obtain ⟨k, hk, rfl, rfl, hs⟩ := hrel
            have HS := Lib.hid hs
            by_cases hlt : k < s.length
            · have hltz : (k : Int) < (s.length : Int) := by omega
              obtain ⟨bb, ob, rfl, -, xa⟩ := hs.rs.four hlt
              have HNT := Lib.hid (nrL_take hlt)
              have HLT := Lib.hid hlt
              clear hs hlt
              generalize nrL (s.take k) = n at *
              generalize s.getD k it0 = x at *
              obtain ⟨kk, nn, lo, hi⟩ := x
              unfold At4 at xa
              obtain ⟨x0, x1, x2, x3⟩ := xa
              simp only at x0 x1 x2 x3
              by_cases h5 : kk = 5
              · have hk5 : (kk == 5) = true := by simpa using h5
                by_cases hn : n < 0
                · have HR : Hid (nrL (s.take (k + 1)) = lo) := by unfold Hid; rw [HNT.out]; unfold nrS; rw [if_pos ⟨h5, .inl hn⟩]
                  clear h5
                  go_wp2
                  go_roundw
                  case rel => exact ⟨k + 1, HLT.out, by go_num, by rw [HR.out], HS.out⟩
                  case measure => have := HLT.out; simp [intOf] <;> omega
                · by_cases hlo : lo < n
                  · have HR : Hid (nrL (s.take (k + 1)) = lo) := by unfold Hid; rw [HNT.out]; unfold nrS; rw [if_pos ⟨h5, .inr hlo⟩]
                    clear h5
                    go_wp2
                    go_roundw
                    case rel => exact ⟨k + 1, HLT.out, by go_num, by rw [HR.out], HS.out⟩
                    case measure => have := HLT.out; simp [intOf] <;> omega
                  · have HR : Hid (nrL (s.take (k + 1)) = n) := by unfold Hid; rw [HNT.out]; unfold nrS; rw [if_neg (fun h => by rcases h.2 with h | h; exact hn h; exact hlo h)]
                    clear h5
                    go_wp2
                    go_roundw
                    case rel => exact ⟨k + 1, HLT.out, by go_num, by rw [HR.out], HS.out⟩
                    case measure => have := HLT.out; simp [intOf] <;> omega
              · have hk5 : (kk == 5) = false := by simpa using h5
                have HR : Hid (nrL (s.take (k + 1)) = n) := by unfold Hid; rw [HNT.out]; unfold nrS; rw [if_neg (fun h => h5 h.1)]
                clear h5
                go_wp2
                go_roundw
                case rel => exact ⟨k + 1, HLT.out, by go_num, by rw [HR.out], HS.out⟩
                case measure => have := HLT.out; simp [intOf] <;> omega
            · obtain rfl : k = s.length := by omega
              have hltz : ¬ ((s.length : Nat) : Int) < (s.length : Int) := by omega
              rw [List.take_length]
              clear hs
              obtain ⟨N, hN⟩ : ∃ N, nrL s = N := ⟨_, rfl⟩
              have HL0 := Lib.hid (ilower_any s B c2 (by omega) HOS.out _ HS.out.rs)
              have HM := Lib.hid (lowS_dw HEO.out (k := 0))
              rw [map_dw_zero, hN] at HM
              have HBD := Lib.hid (nrL_bnd HEO.out)
              have HNN := Lib.hid hN
              rw [hN] at HBD ⊢
              clear hN
              have hbd := HBD.out
              obtain ⟨hbd1, hbd2⟩ := hbd
              by_cases hz : N = 0
              · have HQ0 := Lib.hid (HM.out.2.2 (by omega) (by omega))
                subst hz
                clear hbd1 hbd2 HBD HM
                go_wp2_with fail
                refine HL0.out.mono ?_; rintro e w3 hp
                obtain ⟨rfl, hb⟩ := hp.none HQ0.out
                have HS3 := Lib.hid (HS.out.later hb)
                clear hb hp HS HL0
                go_wp2
                go_ret
                exact ⟨rfl, HS3.out.f.bel⟩
              · have hz0 : (N != 0) = true := by simpa using hz
                have HQ1 : Hid (lowS s = some (s.map (dwI (0 + 1)))) := by
                  unfold Hid
                  by_cases h : N < 0
                  · exact HM.out.2.1 h
                  · exact HM.out.1 (by omega) (by omega)
                have HF := Lib.hid (HDW.out 1 (by rw [HNN.out]; omega))
                clear HM
                go_wp2_with fail
                refine HL0.out.mono ?_; rintro e w3 hp
                obtain ⟨D, cd, rfl, hrd, hb⟩ := lowp_get hp HQ1.out
                have HS3 : Hid (ItwA w A l c B s D (s.map (dwI 1)) w3) := ⟨HS.out.later hb, hrd⟩
                clear hb hp hrd HS HL0
                have HFC : Hid (Calls Try.prog 14 #[.agg #[.slice A l.length c], .slice D s.length cd] w3 (Ans w3 (.bool true))) := by
                  have := iform_any l A c (s.map (dwI 1)) D cd (by omega) (by simp; omega) HTX.out w3 HS3.out.i.f.row HS3.out.ra
                  rw [List.length_map, HF.out] at this; exact this
                have e0 := HS3.out.i.f.box.cell 0
                simp at e0
                go_wp2_with fail
                refine HFC.out.mono ?_; rintro e w4 ⟨rfl, hb⟩
                have HS4 := Lib.hid (HS3.out.later hb)
                clear hb HS3 HFC e0
                go_wp2
                go_loopw [9] (ItwM w A l c B s D (s.map (dwI 1))) (fun i _ => s.length - (intOf i).toNat)
                case atStart => exact ⟨0, Nat.zero_le _, rfl, HS4.out⟩
                case round =>
                  obtain ⟨k, hk, rfl, hs⟩ := hrel
                  have HS := Lib.hid hs
                  by_cases hlt : k < s.length
                  · have hltz : (k : Int) < (s.length : Int) := by omega
                    obtain ⟨bb, ob, rfl, -, -⟩ := hs.i.rs.four hlt
                    obtain ⟨bd, od, rfl, -, ya⟩ := hs.ra.four (i := k) (by rw [List.length_map]; exact hlt)
                    rw [dw_at hlt] at ya
                    have HAT := Lib.hid (fun (w' : World) (h : ItRow w' (some ⟨bb, ob, none⟩) s) => h.at hlt rfl)
                    have HE := Lib.hid (fun h5 => HEO.out (s.getD k it0) (by rw [List.getD_eq_getElem?_getD, List.getElem?_eq_getElem hlt]; exact List.getElem_mem hlt) h5)
                    have HQ := Lib.hid (fun w => neq_it (s.getD k it0) (s.getD k it0) w)
                    have HGD := Lib.hid (fun o1 o2 w => eqGuard_neq_it o1 o2 (s.getD k it0) (s.getD k it0) w)
                    rw [decide_eq_true rfl] at HQ
                    have HLT := Lib.hid hlt
                    clear hs hlt
                    generalize s.getD k it0 = x at *
                    obtain ⟨kk, nn, lo, hi⟩ := x
                    unfold At4 at HAT
                    unfold itV at HQ HGD
                    simp only at HAT HE HQ HGD
                    by_cases h5 : kk = 5
                    · subst h5
                      have hlo := HE.out rfl
                      obtain ⟨hlo1, hlo2⟩ := hlo
                      rw [show dwI 1 ⟨5, nn, lo, hi⟩ = ⟨5, nn, lo - 1, hi⟩ from rfl] at ya
                      unfold At4 at ya
                      simp only at ya
                      obtain ⟨y0, y1, y2, y3⟩ := ya
                      have hb1 := (Below.refl wr.heap.size wr).alloc (Nat.le_refl _) (.cells #[.int .i64 5, .int .i64 nn, .int .i64 (lo - 1), .int .i64 hi] 36)
                      have HB1 := Lib.hid hb1
                      have HX0 := Lib.hid (Blk.new wr #[.int .i64 5, .int .i64 nn, .int .i64 (lo - 1), .int .i64 hi] 36)
                      go_upto_region 20 with (fail)
                      clear hb1 y0 y1 y2 y3
                      generalize wr.alloc (.cells #[.int .i64 5, .int .i64 nn, .int .i64 (lo - 1), .int .i64 hi] 36) = w6 at HB1 HX0 ⊢
                      have x0 := HX0.out.cell 0
                      have x2 := HX0.out.cell 2
                      have f2 := HX0.out.frozen 2
                      simp at x0 x2
                      have hx2 := HX0.out.setCell 2 (.int .i64 lo)
                      have HX1 : Hid (ItwX w A l c (some ⟨bb, ob, none⟩) s (some ⟨bd, od, none⟩) (s.map (dwI 1)) wr.heap.size ⟨5, nn, lo, hi⟩ (w6.setCell ⟨wr.heap.size, 2, none⟩ (.int .i64 lo))) := ⟨HS.out.later (HB1.out.setCell (p := ⟨wr.heap.size, 2, none⟩) (Nat.le_refl _) _), by simpa [itV] using hx2⟩
                      clear hx2
                      go_upto_region 22 with (fail)
                      clear x0 x2 f2 HX0
                      generalize w6.setCell ⟨wr.heap.size, 2, none⟩ (.int .i64 lo) = w7 at HX1 ⊢
                      clear hlo1 hlo2
                      obtain ⟨kk, hkk⟩ : ∃ kk : Int, kk = 5 := ⟨5, rfl⟩
                      rw [← hkk] at HX1 HQ HGD HAT
                      clear hkk HE
                      have HE : Hid True := trivial
                      refine wp_region_stable (S := (ItwX w A l c (some ⟨bb, ob, none⟩) s (some ⟨bd, od, none⟩) (s.map (dwI 1)) wr.heap.size ⟨kk, nn, lo, hi⟩)) (hSt := fun _ _ h hb => h.later hb) (plan := [[(10, none)], [(1, none)], [(9, none)], [(113, some 1), (114, some 2)], [(115, some 3)], [(112, some 0), (116, some 4)]]) (by kernel_rfl) (by kernel_rfl) (by kernel_rfl) ?hS ?_
                      rotate_left
                      iterate 6 first
                        | (refine chain_skip (by rfl) (by rfl) ?_)
                        | (apply chain_want (by rfl)
                           · intro act wx hS hr
                             simp at hr
                             have x0 := hS.bx.cell 0
                             have x1 := hS.bx.cell 1
                             have x2 := hS.bx.cell 2
                             have x3 := hS.bx.cell 3
                             simp [itV] at x0 x1 x2 x3
                             obtain ⟨z0, z1, z2, z3⟩ := HAT.out _ hS.i.i.rs
                             have hq := HQ.out
                             have hgd := HGD.out
                             go_simp
                             (try go_ints)
                             first
                               | exact Done.same (v := .agg #[.int .i64 kk, .int .i64 nn, .int .i64 lo, .int .i64 hi])
                               | exact Done.same
                          )
                      show ∀ w', _ → _
                      intro wz hz
                      simp [Act.put]
                      case hS => exact HX1.out
                      have HZ := Lib.hid hz.i
                      clear hz HX1 HQ HGD HAT HE
                      go_wp2
                      go_roundw
                      case rel => exact ⟨k + 1, HLT.out, by go_num, HZ.out⟩
                      case measure => have := HLT.out; simp [intOf] <;> omega
                    · have hk5 : (kk == 5) = false := by simpa using h5
                      rw [show dwI 1 ⟨kk, nn, lo, hi⟩ = ⟨kk, nn, lo, hi⟩ from if_neg h5] at ya
                      unfold At4 at ya
                      simp only at ya
                      obtain ⟨y0, y1, y2, y3⟩ := ya
                      have hb1 := (Below.refl wr.heap.size wr).alloc (Nat.le_refl _) (.cells #[.int .i64 kk, .int .i64 nn, .int .i64 lo, .int .i64 hi] 36)
                      have HX1 : Hid (ItwX w A l c (some ⟨bb, ob, none⟩) s (some ⟨bd, od, none⟩) (s.map (dwI 1)) wr.heap.size ⟨kk, nn, lo, hi⟩ (wr.alloc (.cells #[.int .i64 kk, .int .i64 nn, .int .i64 lo, .int .i64 hi] 36))) := ⟨HS.out.later hb1, Blk.new _ _ _⟩
                      clear hb1 h5
                      go_upto_region 20 with (fail)
                      generalize wr.alloc (.cells #[.int .i64 kk, .int .i64 nn, .int .i64 lo, .int .i64 hi] 36) = w6 at HX1 ⊢
                      clear y0 y1 y2 y3
                      have x0 := HX1.out.bx.cell 0
                      simp [itV] at x0
                      go_upto_region 22 with (fail)
                      clear x0
                      refine wp_region_stable (S := (ItwX w A l c (some ⟨bb, ob, none⟩) s (some ⟨bd, od, none⟩) (s.map (dwI 1)) wr.heap.size ⟨kk, nn, lo, hi⟩)) (hSt := fun _ _ h hb => h.later hb) (plan := [[(10, none)], [(1, none)], [(9, none)], [(113, some 1), (114, some 2)], [(115, some 3)], [(112, some 0), (116, some 4)]]) (by kernel_rfl) (by kernel_rfl) (by kernel_rfl) ?hS ?_
                      rotate_left
                      iterate 6 first
                        | (refine chain_skip (by rfl) (by rfl) ?_)
                        | (apply chain_want (by rfl)
                           · intro act wx hS hr
                             simp at hr
                             have x0 := hS.bx.cell 0
                             have x1 := hS.bx.cell 1
                             have x2 := hS.bx.cell 2
                             have x3 := hS.bx.cell 3
                             simp [itV] at x0 x1 x2 x3
                             obtain ⟨z0, z1, z2, z3⟩ := HAT.out _ hS.i.i.rs
                             have hq := HQ.out
                             have hgd := HGD.out
                             go_simp
                             (try go_ints)
                             first
                               | exact Done.same (v := .agg #[.int .i64 kk, .int .i64 nn, .int .i64 lo, .int .i64 hi])
                               | exact Done.same
                          )
                      show ∀ w', _ → _
                      intro wz hz
                      simp [Act.put]
                      case hS => exact HX1.out
                      have HZ := Lib.hid hz.i
                      clear hz HX1 HQ HGD HAT HE
                      go_wp2
                      go_roundw
                      case rel => exact ⟨k + 1, HLT.out, by go_num, HZ.out⟩
                      case measure => have := HLT.out; simp [intOf] <;> omega
                  · obtain rfl : k = s.length := by omega
                    have hltz : ¬ ((s.length : Nat) : Int) < (s.length : Int) := by omega
                    clear hs
                    clear HS4 HF HQ1 hk hlt
                    by_cases hn : N < 0
                    · have HSM : Hid (Calls Try.prog 18 #[.slice D s.length cd, .slice B s.length c2] wr (Ans wr (.bool true))) := by
                        have := rstsame_any (s.map (dwI 1)) s D B cd c2 wr HS.out.ra HS.out.i.rs (by simp; omega) (by omega)
                        rw [decide_eq_true (dw_none HEO.out (by rw [HNN.out]; exact hn) 1), List.length_map] at this; exact this
                      go_wp2_with fail
                      refine HSM.out.mono ?_; rintro e w5 ⟨rfl, hb⟩
                      have HS5 := Lib.hid (HS.out.later hb)
                      clear hb HS HSM
                      go_wp2
                      go_ret
                      exact ⟨rfl, HS5.out.i.f.bel⟩
                    · obtain ⟨M, rfl⟩ : ∃ M : Nat, N = (M : Int) := ⟨N.toNat, by omega⟩
                      have hM : 1 ≤ M := by omega
                      have hMz : ¬ (M : Int) < 0 := hn
                      have HCL : Hid (∀ (k : Nat) (D : Option Addr) (cd : Nat) (w' : World), k ≤ 300 → ItRow w' D (s.map (dwI k)) → Calls Try.prog 11 #[.slice D s.length cd] w' (LowP w' (s.map (dwI k)))) := fun k D cd w' hk h => by
                        have := ilower_any (s.map (dwI k)) D cd (by simp; omega) (ok_dw HOS.out HEO.out (by omega)) w' h
                        rwa [List.length_map] at this
                      have HLS := Lib.hid (fun (k : Nat) => lowS_dw HEO.out (k := k))
                      clear hn hz hz0 hbd1 HBD
                      go_wp2
                      go_loopw [7, 11] (ItwN w A l c B s M) (fun _ n _ => 301 - (intOf n).toNat)
                      case atStart => exact ⟨1, D, cd, Nat.le_refl _, hM, by omega, rfl, rfl, HS.out⟩
                      case round =>
                        obtain ⟨k, E, ce, hk1, hk2, hk3, rfl, rfl, hs⟩ := hrel
                        have HSA := Lib.hid hs
                        have HLK := Lib.hid (HCL.out k E ce _ hk3 hs.ra)
                        clear hs
                        by_cases hkM : k < M
                        · have hkz : (k : Int) < (M : Int) := by omega
                          have HQ := Lib.hid ((HLS.out k).1 (by rw [HNN.out]; omega) (by rw [HNN.out]; omega))
                          by_cases hk300 : k < 300
                          · have hk3z : (k : Int) < 300 := by omega
                            have HKK := Lib.hid (And.intro hkM hk300)
                            clear hkM hk300 hk1 hk2 hk3
                            go_wp2_with fail
                            refine HLK.out.mono ?_; rintro e w6 hp
                            obtain ⟨F, cf, he, hrf, hb⟩ := lowp_get hp HQ.out
                            rw [List.length_map] at he
                            subst he
                            have HS6 : Hid (ItwA w A l c B s F (s.map (dwI (k + 1))) w6) := ⟨HSA.out.i.later hb, hrf⟩
                            clear hb hp hrf HSA HLK HQ
                            go_wp2
                            go_roundw
                            case rel => exact ⟨k + 1, F, cf, by omega, by have := HKK.out.1; omega, by have := HKK.out.2; omega, by go_num, rfl, HS6.out⟩
                            case measure => have := HKK.out.2; simp [intOf] <;> omega
                          · have hk3z : ¬ (k : Int) < 300 := by omega
                            have hbig : (M : Int) > 300 := by omega
                            clear hkM hk300 hk1 hk2 hk3
                            go_wp2_with fail
                            refine HLK.out.mono ?_; rintro e w6 hp
                            obtain ⟨F, cf, he, hrf, hb⟩ := lowp_get hp HQ.out
                            rw [List.length_map] at he
                            subst he
                            have HS6 := Lib.hid (HSA.out.i.later hb)
                            clear hb hp hrf HSA HLK HQ
                            go_wp2
                            go_ret
                            exact ⟨rfl, HS6.out.f.bel⟩
                        · have hkz : ¬ (k : Int) < (M : Int) := by omega
                          have HQ := Lib.hid ((HLS.out k).2.2 (by rw [HNN.out]; omega) (by rw [HNN.out]; omega))
                          clear hkM hk1 hk2 hk3
                          go_wp2_with fail
                          refine HLK.out.mono ?_; rintro e w6 hp
                          obtain ⟨rfl, hb⟩ := hp.none HQ.out
                          have HS6 := Lib.hid (HSA.out.i.later hb)
                          clear hb hp HSA HLK HQ
                          go_wp2
                          go_ret
                          exact ⟨rfl, HS6.out.f.bel⟩
      · have za : (s.length : Int) > 30 := by omega
        clear ga
        go_wp2_with fail
        refine ((HF.out)).mono ?_; rintro e w2 ⟨rfl, hb⟩
        have HS2 := Lib.hid (HS.out.later hb)
        clear hb e0 HS
        have HS := HS2
        clear HS2
        have e0 := HS.out.f.box.cell 0
        simp at e0
        go_wp2_with fail
        refine ((HAW.out _)).mono ?_; rintro e w2 ⟨rfl, hb⟩
        have HS2 := Lib.hid (HS.out.later hb)
        clear hb e0 HS
        have HS := HS2
        clear HS2
        have e0 := HS.out.f.box.cell 0
        simp at e0
        go_wp2
        go_ret
        exact ⟨rfl, HS.out.f.bel⟩
end Go.Proofs.Ytnhcbldcfcibiaa
/- The statement ItemKeeps of layer 13, walked. -/
namespace Go.Proofs.Ytnhcbldcfcibiaa
open Go Go.RowKit
set_option linter.unusedVariables false
set_option linter.unusedSimpArgs false
set_option maxRecDepth 1000000
set_option maxHeartbeats 64000000

structure IkS (w0 : World) (A : Option Addr) (s : List Itm) (w : World) : Prop where
  bel : Below w0.heap.size w0 w
  ra : ItRow w A s
theorem IkS.later {w0 w w' : World} {A : Option Addr} {s : List Itm} (h : IkS w0 A s w) (hb : Below w.heap.size w w') : IkS w0 A s w' := ⟨h.bel.trans (hb.mono h.bel.size), h.ra.later hb⟩
structure IkO (w0 : World) (A O : Option Addr) (s : List Itm) (w : World) : Prop where
  i : IkS w0 A s w
  ro : ItRow w O s
theorem IkO.later {w0 w w' : World} {A O : Option Addr} {s : List Itm} (h : IkO w0 A O s w) (hb : Below w.heap.size w w') : IkO w0 A O s w' := ⟨h.i.later hb, h.ro.later hb⟩
/-- A row that is written into, above all that stood. -/
def IkW (w2 : World) (n g : Nat) (w : World) : Prop := Below w2.heap.size w2 w ∧ (0 < n → w2.heap.size ≤ g ∧ ∃ cur, Blk w g cur 36 ∧ n * 4 ≤ cur.size)
def IkL (w2 : World) (n g : Nat) (i : Value) (w : World) : Prop := ∃ k : Nat, k ≤ n ∧ i = .int .i64 (k : Int) ∧ IkW w2 n g w
theorem lowp_row {w0 w : World} {l : List Itm} {e : Ending} (h : LowP w0 l e w) : ∃ a n cap g b, e = .returned (.tuple #[.slice a n cap, .bool b]) ∧ (0 < n → a = some ⟨g, 0, none⟩) ∧ n ≤ l.length ∧ IkW w0 n g w := by
  obtain ⟨hb, ⟨-, h1⟩ | ⟨v, m, h1, h2, h3⟩⟩ := h
  · exact ⟨none, 0, 0, 0, false, h1, fun h => absurd h (by omega), Nat.zero_le _, hb, fun h => absurd h (by omega)⟩
  · have hm : m.length = l.length := by
      unfold lowS at h1; split at h1
      · cases h1; simp
      · cases h1
    obtain ⟨h0, ⟨hv, hn⟩ | ⟨g, cap, cur, hv, hbg, hg, hc, hmm, hs, ht⟩⟩ := h3
    · exact ⟨none, 0, 0, 0, true, by rw [h2, hv], fun h => absurd h (by omega), Nat.zero_le _, hb, fun h => absurd h (by omega)⟩
    · exact ⟨_, m.length, cap, g, true, by rw [h2, hv], fun _ => rfl, by omega, hb, fun _ => ⟨hbg, cur, hg, by rw [hs]; exact Nat.mul_le_mul_right _ hc⟩⟩
theorem itemkeeps_walk (s : List Itm) (A : Option Addr) (c : Nat) (h1 : s.length ≤ 9223372036854775807) (hok : ItOk s) (w : World) (ha : ItRow w A s) :
    Calls Try.prog 6 #[.slice A s.length c] w (Ans w (.bool true)) := by
  have HS : Hid (IkS w A s w) := ⟨Below.refl _ _, ha⟩
  have HAW := Lib.hid (fun w => awake13_any w)
  have HOK := Lib.hid hok
  clear ha hok
  go_enter Try.func6, Try.ntmps6
  by_cases ga : s.length ≤ 60
  · have za : ¬ (s.length : Int) > 60 := by omega
    go_wp2_with fail
    refine ((HAW.out _)).mono ?_; rintro e w2 ⟨rfl, hb⟩
    have HS2 := Lib.hid (HS.out.later hb)
    clear hb HS
    have HS := HS2
    clear HS2
    go_upto_region 3 with (fail)
    have hb3 := (Below.refl w2.heap.size w2).alloc (Nat.le_refl _) (.cells #[] 36)
    have HK3 := Lib.hid (Blk.new w2 #[] 36)
    have HS3 := Lib.hid (HS.out.later hb3)
    have HL3 := Lib.hid hb3.size
    have hsl : s.length < 1073741000 := by omega
    clear hb3 HS
    go_wp2_with (at_builtin; refine wpList_append_freshI rfl _ _ rfl w2.heap.size w2.heap.size (Nat.le_refl _) HL3.out rfl HK3.out s A c rfl HS3.out.ra hsl ?_; intro v' w4 h1 h2; have HO4 := Lib.hid h1; have HS4 := Lib.hid (HS3.out.later h2); clear h1 h2)
    obtain ⟨ao, co, rfl, -, hro⟩ := HO4.out.row
    have HS : Hid (IkO w A ao s w4) := ⟨HS4.out, hro⟩
    have HC := Lib.hid (ilower_any s ao co (by omega) HOK.out w4 hro)
    clear hro HO4 HS4 HS3 HK3 HL3
    go_wp2_with fail
    refine HC.out.mono ?_; rintro e w5 hp
    obtain ⟨a, n, cap, g, b, rfl, hag, hnl, hw⟩ := lowp_row hp
    have HAG := Lib.hid hag
    have HW := Lib.hid hw
    clear hp hag hw HC
    have hn60 : n ≤ 60 := by omega
    clear hnl
    go_wp2
    go_loopw [6] (IkL w4 n g) (fun i _ => n - (intOf i).toNat)
    case atStart => exact ⟨0, Nat.zero_le _, rfl, HW.out⟩
    case round =>
      obtain ⟨k, hk, rfl, hs⟩ := hrel
      have HWR := Lib.hid hs
      clear hs
      by_cases hlt : k < n
      · have hltz : (k : Int) < (n : Int) := by omega
        have hag := HAG.out (by omega)
        subst hag
        obtain ⟨hg, cur, hblk, hsz⟩ := HWR.out.2 (by omega)
        obtain ⟨u, hu⟩ : ∃ u, cur[k * 4]? = some u := ⟨_, Array.getElem?_eq_getElem (by omega)⟩
        have hc := hblk.cell (k * 4)
        rw [hu] at hc
        have hf := hblk.frozen (k * 4)
        have HN : Hid (IkW w4 n g (wr.setCell ⟨g, k * 4, none⟩ (.int .i64 99))) := ⟨HWR.out.1.setCell (p := ⟨g, k * 4, none⟩) hg _, fun _ => ⟨hg, _, hblk.setCell (k * 4) _, by simpa using hsz⟩⟩
        have HLT := Lib.hid hlt
        clear hblk hsz hu hlt hg
        go_wp2
        go_roundw
        case rel => exact ⟨k + 1, HLT.out, by go_num, HN.out⟩
        case measure => have := HLT.out; simp [intOf] <;> omega
      · have hltz : ¬ (k : Int) < (n : Int) := by omega
        have HS2 := Lib.hid (HS.out.later HWR.out.1)
        clear HS HWR
        have HS := HS2
        clear HS2
        have HC1 := Lib.hid (fun (w' : World) (h : IkO w A ao s w') => ikey_any s ao co (by omega) HOK.out w' h.ro)
        have HC2 := Lib.hid (fun (w' : World) (h : IkO w A ao s w') => icompare_any s s ao ao co co w' h.ro h.ro (by omega) (by omega))
        have HC3 : Hid (∀ (w' : World) (h : IkO w A ao s w'), Calls Try.prog 18 #[.slice ao s.length co, .slice A s.length c] w' (Ans w' (.bool true))) := fun w' h => by
          have := rstsame_any s s ao A co c w' h.ro h.i.ra (by omega) (by omega)
          rwa [decide_eq_true rfl] at this
        unfold KyP at HC1
        go_wp2_with fail
        refine ((HC1.out _ HS.out)).mono ?_; rintro e w2 ⟨rfl, hb⟩
        have HS2 := Lib.hid (HS.out.later hb)
        clear hb HS
        have HS := HS2
        clear HS2
        go_wp2_with fail
        refine ((HC2.out _ HS.out)).mono ?_; rintro e w2 ⟨rfl, hb⟩
        have HS2 := Lib.hid (HS.out.later hb)
        clear hb HS
        have HS := HS2
        clear HS2
        go_wp2_with fail
        refine ((HC3.out _ HS.out)).mono ?_; rintro e w2 ⟨rfl, hb⟩
        have HS2 := Lib.hid (HS.out.later hb)
        clear hb HS
        have HS := HS2
        clear HS2
        go_wp2
        go_ret
        exact ⟨rfl, HS.out.i.bel⟩
  · have za : (s.length : Int) > 60 := by omega
    clear ga
    go_wp2_with fail
    refine ((HAW.out _)).mono ?_; rintro e w2 ⟨rfl, hb⟩
    have HS2 := Lib.hid (HS.out.later hb)
    clear hb HS
    have HS := HS2
    clear HS2
    go_wp2_with fail
    refine ((HAW.out _)).mono ?_; rintro e w2 ⟨rfl, hb⟩
    have HS2 := Lib.hid (HS.out.later hb)
    clear hb HS
    have HS := HS2
    clear HS2
    go_wp2
    go_ret
    exact ⟨rfl, HS.out.bel⟩
end Go.Proofs.Ytnhcbldcfcibiaa
