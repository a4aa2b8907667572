/- Have items, and states, their form: the document's walk. -/
import Derived.Test.YtidoofdofdhjpaaM31
import Derived.Test.YtidoofdofdhjpaaM11
import Derived.Test.YtidoofdofdhjpaaM03
import Derived.Test.YtidoofdofdhjpaaM26
namespace Go.Proofs.Ytidoofdofdhjpaa
open Go Go.RowKit
set_option linter.unusedVariables false
set_option linter.unusedSimpArgs false
set_option maxRecDepth 100000
set_option maxHeartbeats 16000000

section
variable {l : List Nd} {x : Itm} {n : Nd}
theorem itR_k5 (h : x.kind = 5) : itF l x = ((x.node == 0) && (x.hi == 0) && decide (0 ≤ x.lo) && decide (x.lo ≤ 65535)) := by
  unfold itF; rw [if_pos h, Bool.eq_iff_iff]; simp; omega
theorem itR_out (h : x.kind ≠ 5) (hw : x.node < 0 ∨ (l.length : Int) ≤ x.node) : itF l x = false := by
  unfold itF; rw [if_neg h, if_pos hw]
theorem itR_k2 (h : x.kind = 2) {i : Nat} (hi : i < l.length) (hx : x.node = (i : Int)) : itF l x = (((atN l i).kind == 7) && decide (0 ≤ x.lo) && decide (x.lo ≤ x.hi) && decide (x.hi ≤ (atN l i).hi)) := by
  rw [itF_in (by omega) hi hx, if_neg (by omega), if_pos h, Bool.eq_iff_iff]; simp
theorem itR_k3 (h : x.kind = 3) {i : Nat} (hi : i < l.length) (hx : x.node = (i : Int)) : itF l x = (((atN l i).kind == 3) && (x.hi == 0) && decide (0 ≤ x.lo) && decide (x.lo < ((atN l i).text.length : Int))) := by
  rw [itF_in (by omega) hi hx, if_neg (by omega), if_neg (by omega), if_pos h, Bool.eq_iff_iff]; simp; omega
theorem itR_k4 (h : x.kind = 4) {i : Nat} (hi : i < l.length) (hx : x.node = (i : Int)) : itF l x = (((atN l i).kind == 9) && (x.hi == 0) && decide (0 ≤ x.lo) && decide (x.lo ≤ 255)) := by
  rw [itF_in (by omega) hi hx, if_neg (by omega), if_neg (by omega), if_neg (by omega), if_pos h, Bool.eq_iff_iff]; simp; omega
end

theorem rform_any (l : List Nd) (A : Option Addr) (c : Nat) (x : Itm) (hlen : l.length ≤ 1073741824) (htx : Txt l) (w : World) (hrow : NRow w A l) :
    Calls Try.prog 36 #[.agg #[.slice A l.length c], .agg (itV x)] w (Ans w (.bool (itF l x))) := by
  obtain ⟨kk, nn, lo, hi⟩ := x
  have HS := Lib.hid (HfS.new c ⟨kk, nn, lo, hi⟩ hrow)
  have HTX := Lib.hid htx
  obtain ⟨v, hv⟩ : ∃ v, itF l ⟨kk, nn, lo, hi⟩ = v := ⟨_, rfl⟩
  have HV0 := Lib.hid hv
  rw [hv]
  clear hrow htx hv
  go_enter Try.func36, Try.ntmps36
  go_upto_region 1 with (fail)
  unfold itV at HS ⊢
  simp only at HS ⊢
  generalize (w.alloc (.cells #[.slice A l.length c] 24)).alloc (.cells #[.int .i64 kk, .int .i64 nn, .int .i64 lo, .int .i64 hi] 44) = w1 at HS ⊢
  have HB := Lib.hid HS.out.s.bel
  by_cases h5 : kk = 5
  · have HV : Hid (v = ((nn == 0) && (hi == 0) && decide (0 ≤ lo) && decide (lo ≤ 65535))) := by unfold Hid; rw [← HV0.out]; exact itR_k5 h5
    have hk : (kk == 5) = true := by simpa using h5
    clear HV0 h5
    have x0 := HS.out.it.cell 0
    have x1 := HS.out.it.cell 1
    have x2 := HS.out.it.cell 2
    have x3 := HS.out.it.cell 3
    have e0 := HS.out.s.box.cell 0
    simp [itV] at x0 x1 x2 x3 e0
    cases hb1 : (nn == 0) with
    | false =>
      rw [hb1] at HV
      go_wp2
      go_ret
      exact ⟨by rw [HV.out]; rfl, HB.out⟩
    | true =>
      rw [hb1] at HV
      cases hb2 : (hi == 0) with
      | false =>
        rw [hb2] at HV
        go_wp2
        go_ret
        exact ⟨by rw [HV.out]; rfl, HB.out⟩
      | true =>
        rw [hb2] at HV
        cases hb3 : (decide (0 ≤ lo)) with
        | false =>
          rw [hb3] at HV
          go_wp2
          go_ret
          exact ⟨by rw [HV.out]; rfl, HB.out⟩
        | true =>
          rw [hb3] at HV
          cases hb4 : (decide (lo ≤ 65535)) with
          | false =>
            rw [hb4] at HV
            go_wp2
            go_ret
            exact ⟨by rw [HV.out]; rfl, HB.out⟩
          | true =>
            rw [hb4] at HV
            go_wp2
            go_ret
            exact ⟨by rw [HV.out]; rfl, HB.out⟩
  · have hk : (kk == 5) = false := by simpa using h5
    by_cases hneg : nn < 0
    · have HV : Hid (v = false) := by unfold Hid; rw [← HV0.out]; exact itR_out h5 (.inl hneg)
      clear HV0 h5
      have x0 := HS.out.it.cell 0
      have x1 := HS.out.it.cell 1
      have x2 := HS.out.it.cell 2
      have x3 := HS.out.it.cell 3
      have e0 := HS.out.s.box.cell 0
      simp [itV] at x0 x1 x2 x3 e0
      go_wp2
      go_ret
      exact ⟨by rw [HV.out]; rfl, HB.out⟩
    by_cases hbig : (l.length : Int) ≤ nn
    · have HV : Hid (v = false) := by unfold Hid; rw [← HV0.out]; exact itR_out h5 (.inr hbig)
      clear HV0 h5
      have x0 := HS.out.it.cell 0
      have x1 := HS.out.it.cell 1
      have x2 := HS.out.it.cell 2
      have x3 := HS.out.it.cell 3
      have e0 := HS.out.s.box.cell 0
      simp [itV] at x0 x1 x2 x3 e0
      go_wp2
      go_ret
      exact ⟨by rw [HV.out]; rfl, HB.out⟩
    · have hin : 0 ≤ nn ∧ nn ≤ (l.length : Int) - 1 := by omega
      obtain ⟨i, hix⟩ : ∃ i : Nat, nn = (i : Int) := ⟨nn.toNat, by omega⟩
      subst hix
      have hil : i < l.length := by omega
      have HK1 := Lib.hid (fun h => itF_k1 (l := l) (x := ⟨kk, (i : Int), lo, hi⟩) h hil rfl)
      have HK2 := Lib.hid (fun h => itR_k2 (l := l) (x := ⟨kk, (i : Int), lo, hi⟩) h hil rfl)
      have HK3 := Lib.hid (fun h => itR_k3 (l := l) (x := ⟨kk, (i : Int), lo, hi⟩) h hil rfl)
      have HK4 := Lib.hid (fun h => itR_k4 (l := l) (x := ⟨kk, (i : Int), lo, hi⟩) h hil rfl)
      have HK0 := Lib.hid (fun h1 h2 h3 h4 => itF_none (l := l) (x := ⟨kk, (i : Int), lo, hi⟩) h5 h1 h2 h3 h4)
      have HTN := Lib.hid (HTX.out (atN l i) (by unfold atN; rw [List.getD_eq_getElem?_getD, List.getElem?_eq_getElem hil]; exact List.getElem_mem _))
      obtain ⟨ba, oa, rfl, -, -⟩ := HS.out.s.row i hil
      have g : At10 w1 ba (oa + i * 10) (atN l i) := HS.out.s.row.at hil rfl
      clear hneg hbig hin h5 HTX
      have x0 := HS.out.it.cell 0
      have x1 := HS.out.it.cell 1
      have x2 := HS.out.it.cell 2
      have x3 := HS.out.it.cell 3
      have e0 := HS.out.s.box.cell 0
      simp [itV] at x0 x1 x2 x3 e0
      generalize itF l ⟨kk, (i : Int), lo, hi⟩ = vv at *
      generalize atN l i = n at *
      obtain ⟨nk, na, nb, nlo, nhi, ncls, ntext⟩ := n
      unfold At10 at g
      simp only at g HK1 HK2 HK3 HK4 HTN
      obtain ⟨g0, g1, g2, g3, g4, g5, g6, g7, g8, g9⟩ := g
      have hilz : (i : Int) < (l.length : Int) := by omega
      have hin0 : ¬ (i : Int) < 0 := by omega
      go_upto_region 6 with (fail)
      have hb3 := (Below.refl w1.heap.size w1).alloc (Nat.le_refl _) (.cells #[.int .i64 nk, .int .i64 na, .int .i64 nb, .int .i64 nlo, .int .i64 nhi, .int .u64 (wd ncls 0), .int .u64 (wd ncls 1), .int .u64 (wd ncls 2), .int .u64 (wd ncls 3), .string (bs ntext)] 58)
      have HN := Lib.hid (Blk.new w1 #[.int .i64 nk, .int .i64 na, .int .i64 nb, .int .i64 nlo, .int .i64 nhi, .int .u64 (wd ncls 0), .int .u64 (wd ncls 1), .int .u64 (wd ncls 2), .int .u64 (wd ncls 3), .string (bs ntext)] 58)
      have HS3 := Lib.hid (HS.out.later hb3)
      clear hb3 g0 g1 g2 g3 g4 g5 g6 g7 g8 g9 x0 x1 x2 x3 e0 HB HS
      generalize w1.alloc (.cells #[.int .i64 nk, .int .i64 na, .int .i64 nb, .int .i64 nlo, .int .i64 nhi, .int .u64 (wd ncls 0), .int .u64 (wd ncls 1), .int .u64 (wd ncls 2), .int .u64 (wd ncls 3), .string (bs ntext)] 58) = w3 at HN HS3 ⊢
      generalize w1.heap.size = bn at *
      have HB := Lib.hid HS3.out.s.bel
      have hit := HS3.out.it
      unfold itV at hit
      simp only at hit
      have x0 := hit.cell 0
      have x1 := hit.cell 1
      have x2 := hit.cell 2
      have x3 := hit.cell 3
      simp at x0 x1 x2 x3
      clear hit
      have g := HN.out
      obtain ⟨g0, g1, g2, g3, g4, g5, g6, g7, g8, g9⟩ := ten_cells g
      clear g HN HS3
      by_cases h1 : kk = 1
      · have HV : Hid (v = ((lo == 0) && (hi == 0))) := by unfold Hid; rw [← HV0.out]; exact HK1.out h1
        subst h1
        clear HK1 HK2 HK3 HK4 HK0 HV0
        cases hb1 : (lo == 0) with
        | false =>
          rw [hb1] at HV
          go_wp2
          go_ret
          exact ⟨by rw [HV.out]; rfl, HB.out⟩
        | true =>
          rw [hb1] at HV
          cases hb3 : (hi == 0) with
          | false =>
            rw [hb3] at HV
            go_wp2
            go_ret
            exact ⟨by rw [HV.out]; rfl, HB.out⟩
          | true =>
            rw [hb3] at HV
            go_wp2
            go_ret
            exact ⟨by rw [HV.out]; rfl, HB.out⟩
      · have k1 : (kk == 1) = false := by simpa using h1
        by_cases h2 : kk = 2
        · have HV : Hid (v = ((nk == 7) && decide (0 ≤ lo) && decide (lo ≤ hi) && decide (hi ≤ nhi))) := by unfold Hid; rw [← HV0.out]; exact HK2.out h2
          subst h2
          clear HK1 HK2 HK3 HK4 HK0 HV0 h1 k1 hk
          cases hb1 : (nk == 7) with
          | false =>
            rw [hb1] at HV
            go_wp2
            go_ret
            exact ⟨by rw [HV.out]; rfl, HB.out⟩
          | true =>
            rw [hb1] at HV
            cases hb2 : (decide (0 ≤ lo)) with
            | false =>
              rw [hb2] at HV
              go_wp2
              go_ret
              exact ⟨by rw [HV.out]; rfl, HB.out⟩
            | true =>
              rw [hb2] at HV
              cases hb3 : (decide (lo ≤ hi)) with
              | false =>
                rw [hb3] at HV
                go_wp2
                go_ret
                exact ⟨by rw [HV.out]; rfl, HB.out⟩
              | true =>
                rw [hb3] at HV
                cases hb4 : (decide (hi ≤ nhi)) with
                | false =>
                  rw [hb4] at HV
                  go_wp2
                  go_ret
                  exact ⟨by rw [HV.out]; rfl, HB.out⟩
                | true =>
                  rw [hb4] at HV
                  go_wp2
                  go_ret
                  exact ⟨by rw [HV.out]; rfl, HB.out⟩
        · have k2 : (kk == 2) = false := by simpa using h2
          by_cases h3 : kk = 3
          · have HV : Hid (v = ((nk == 3) && (hi == 0) && decide (0 ≤ lo) && decide (lo < ((bs ntext).size : Int)))) := by unfold Hid; rw [← HV0.out, bs_size]; exact HK3.out h3
            subst h3
            have ht : (bs ntext).size ≤ 281474976710656 := by rw [bs_size]; exact HTN.out
            clear HK1 HK2 HK3 HK4 HK0 HV0 h1 h2 k1 k2 hk
            cases hb1 : (nk == 3) with
            | false =>
              rw [hb1] at HV
              go_wp2
              go_ret
              exact ⟨by rw [HV.out]; rfl, HB.out⟩
            | true =>
              rw [hb1] at HV
              cases hb2 : (hi == 0) with
              | false =>
                rw [hb2] at HV
                go_wp2
                go_ret
                exact ⟨by rw [HV.out]; rfl, HB.out⟩
              | true =>
                rw [hb2] at HV
                cases hb3 : (decide (0 ≤ lo)) with
                | false =>
                  rw [hb3] at HV
                  go_wp2
                  go_ret
                  exact ⟨by rw [HV.out]; rfl, HB.out⟩
                | true =>
                  rw [hb3] at HV
                  cases hb4 : (decide (lo < ((bs ntext).size : Int))) with
                  | false =>
                    rw [hb4] at HV
                    go_wp2
                    go_ret
                    exact ⟨by rw [HV.out]; rfl, HB.out⟩
                  | true =>
                    rw [hb4] at HV
                    go_wp2
                    go_ret
                    exact ⟨by rw [HV.out]; rfl, HB.out⟩
          · have k3 : (kk == 3) = false := by simpa using h3
            by_cases h4 : kk = 4
            · have HV : Hid (v = ((nk == 9) && (hi == 0) && decide (0 ≤ lo) && decide (lo ≤ 255))) := by unfold Hid; rw [← HV0.out]; exact HK4.out h4
              subst h4
              clear HK1 HK2 HK3 HK4 HK0 HV0 h1 h2 h3 k1 k2 k3 hk
              cases hb1 : (nk == 9) with
              | false =>
                rw [hb1] at HV
                go_wp2
                go_ret
                exact ⟨by rw [HV.out]; rfl, HB.out⟩
              | true =>
                rw [hb1] at HV
                cases hb2 : (hi == 0) with
                | false =>
                  rw [hb2] at HV
                  go_wp2
                  go_ret
                  exact ⟨by rw [HV.out]; rfl, HB.out⟩
                | true =>
                  rw [hb2] at HV
                  cases hb3 : (decide (0 ≤ lo)) with
                  | false =>
                    rw [hb3] at HV
                    go_wp2
                    go_ret
                    exact ⟨by rw [HV.out]; rfl, HB.out⟩
                  | true =>
                    rw [hb3] at HV
                    cases hb4 : (decide (lo ≤ 255)) with
                    | false =>
                      rw [hb4] at HV
                      go_wp2
                      go_ret
                      exact ⟨by rw [HV.out]; rfl, HB.out⟩
                    | true =>
                      rw [hb4] at HV
                      go_wp2
                      go_ret
                      exact ⟨by rw [HV.out]; rfl, HB.out⟩
            · have k4 : (kk == 4) = false := by simpa using h4
              have HV : Hid (v = false) := by unfold Hid; rw [← HV0.out]; exact HK0.out h1 h2 h3 h4
              clear HK1 HK2 HK3 HK4 HK0 HV0 h1 h2 h3 h4
              go_wp2
              go_ret
              exact ⟨by rw [HV.out]; rfl, HB.out⟩
end Go.Proofs.Ytidoofdofdhjpaa
/- Have states their form; where a state starts: walked. -/
namespace Go.Proofs.Ytidoofdofdhjpaa
open Go Go.RowKit
set_option linter.unusedVariables false
set_option linter.unusedSimpArgs false
set_option maxRecDepth 100000
set_option maxHeartbeats 16000000

structure IfS (w0 : World) (A : Option Addr) (l : List Nd) (c : Nat) (B : Option Addr) (s : List Itm) (w : World) : Prop where
  f : FstS w0 A l c w
  row : ItRow w B s
theorem IfS.later {w0 w w' : World} {A B : Option Addr} {l : List Nd} {c : Nat} {s : List Itm} (h : IfS w0 A l c B s w) (hb : Below w.heap.size w w') : IfS w0 A l c B s w' := ⟨h.f.later hb, h.row.later hb⟩
theorem IfS.new {w : World} {A B : Option Addr} {l : List Nd} {s : List Itm} (c : Nat) (hrow : NRow w A l) (hs : ItRow w B s) : IfS w A l c B s (w.alloc (.cells #[.slice A l.length c] 24)) := by
  have HB := (Below.refl w.heap.size w).alloc (Nat.le_refl _) (.cells #[.slice A l.length c] 24)
  exact ⟨⟨HB, hrow.later HB, Blk.new _ _ _⟩, hs.later HB⟩
def IfL (w0 : World) (A : Option Addr) (l : List Nd) (c : Nat) (B : Option Addr) (s : List Itm) (i : Value) (w : World) : Prop := ∃ k : Nat, k ≤ s.length ∧ i = .int .i64 (k : Int) ∧ (∀ x ∈ s.take k, itF l x = true) ∧ IfS w0 A l c B s w
theorem stF_no {l : List Nd} {s : List Itm} {k : Nat} (hk : k < s.length) (h : itF l (s.getD k it0) = false) : stF l s = false := by
  unfold stF
  rw [List.all_eq_false]
  exact ⟨_, List.getElem_mem hk, by rw [List.getD_eq_getElem?_getD, List.getElem?_eq_getElem hk] at h; simpa using h⟩
theorem stF_yes {l : List Nd} {s : List Itm} (h : ∀ x ∈ s.take s.length, itF l x = true) : stF l s = true := by
  unfold stF
  rw [List.all_eq_true]; rwa [List.take_length] at h
theorem stF_next {l : List Nd} {s : List Itm} {k : Nat} (hk : k < s.length) (h : ∀ x ∈ s.take k, itF l x = true) (hx : itF l (s.getD k it0) = true) : ∀ x ∈ s.take (k + 1), itF l x = true := fun x hm => by
  rw [take_it hk] at hm
  rcases List.mem_append.1 hm with hm | hm
  · exact h x hm
  · rw [List.mem_singleton.1 hm]; exact hx
theorem riform_any (l : List Nd) (A : Option Addr) (c : Nat) (s : List Itm) (B : Option Addr) (c2 : Nat) (hlen : l.length ≤ 1073741824) (hsl : s.length ≤ 1073741824) (htx : Txt l) (w : World) (hrow : NRow w A l) (hs : ItRow w B s) :
    Calls Try.prog 15 #[.agg #[.slice A l.length c], .slice B s.length c2] w (Ans w (.bool (stF l s))) := by
  have HS0 := Lib.hid (IfS.new c hrow hs)
  have HTX := Lib.hid htx
  clear hrow hs htx
  go_enter Try.func15, Try.ntmps15
  go_upto_region 1 with (fail)
  generalize w.alloc (.cells #[.slice A l.length c] 24) = wb at *
  go_wp2
  go_loopw [5] (IfL w A l c B s) (fun i _ => s.length - (intOf i).toNat)
  case atStart => exact ⟨0, Nat.zero_le _, rfl, by simp, HS0.out⟩
  case round =>
    obtain ⟨k, hk, rfl, hm, hs⟩ := hrel
    have HM := Lib.hid hm
    have HS := Lib.hid hs
    by_cases hlt : k < s.length
    · have hltz : (k : Int) < (s.length : Int) := by omega
      obtain ⟨bb, ob, rfl, -, xa⟩ := hs.row.four hlt
      have HNX := Lib.hid (stF_next hlt HM.out)
      have HNO := Lib.hid (stF_no (l := l) hlt)
      have HAT := Lib.hid (fun (w' : World) (h : ItRow w' (some ⟨bb, ob, none⟩) s) => h.at hlt rfl)
      have HC := Lib.hid (fun (w' : World) (h : NRow w' A l) => rform_any l A c (s.getD k it0) hlen HTX.out w' h)
      have HLT := Lib.hid hlt
      clear hs hm hlt
      generalize s.getD k it0 = x at *
      obtain ⟨kk, nn, lo, hi⟩ := x
      unfold At4 at xa HAT
      obtain ⟨x0, x1, x2, x3⟩ := xa
      simp only at x0 x1 x2 x3 HAT
      unfold itV at HC
      simp only at HC
      generalize itF l ⟨kk, nn, lo, hi⟩ = v at *
      clear x0 x1 x2 x3
      have HS1 := HS
      go_upto_region 4 with (fail)
      refine wp_region_stable_tail 5 (S := (IfS w A l c (some ⟨bb, ob, none⟩) s)) (hSt := fun _ _ h hb => h.later hb) (plan := [[(2, none)], [(1, none)], [(5, none)], [(13, some 1), (14, some 2)], [(15, some 3)]]) rfl rfl (by kernel_rfl) (by kernel_rfl) (by kernel_rfl) (by kernel_rfl) ?hS ?_
      rotate_left
      iterate 5 first
        | (refine chain_skip (by rfl) (by rfl) ?_)
        | (apply chain_want (by rfl)
           · intro act wx hS hr
             simp at hr
             have e0 := hS.f.box.cell 0
             simp at e0
             obtain ⟨x0, x1, x2, x3⟩ := HAT.out _ hS.row
             go_simp
             (try go_ints)
             first
               | exact Done.same (v := .agg #[.int .i64 kk, .int .i64 nn, .int .i64 lo, .int .i64 hi])
               | exact Done.same
          )
      show ∀ w', _ → _
      intro wz hz
      simp [Act.put]
      case hS => exact HS.out
      have HSZ := Lib.hid hz
      clear hz HS HS0 HS1
      go_wp2_with fail
      refine (HC.out _ HSZ.out.f.row).mono ?_; rintro e w2 ⟨rfl, hb⟩
      have HS2 := Lib.hid (HSZ.out.later hb)
      clear hb HSZ
      cases v with
      | true =>
        have HN := Lib.hid (HNX.out rfl)
        go_wp2
        go_roundw
        case rel => exact ⟨k + 1, HLT.out, by go_num, HN.out, HS2.out⟩
        case measure => have := HLT.out; simp [intOf] <;> omega
      | false =>
        have HR := Lib.hid (HNO.out rfl)
        go_wp2
        go_ret
        exact ⟨by rw [HR.out]; rfl, HS2.out.f.bel⟩
    · obtain rfl : k = s.length := by omega
      have hltz : ¬ ((s.length : Nat) : Int) < (s.length : Int) := by omega
      have HR := Lib.hid (stF_yes hm)
      clear hs hm
      go_wp2
      go_ret
      exact ⟨by rw [HR.out]; rfl, HS.out.f.bel⟩
end Go.Proofs.Ytidoofdofdhjpaa
/- The parser's token, and what begins: walked. -/
namespace Go.Proofs.Ytidoofdofdhjpaa
open Go Go.RowKit
set_option linter.unusedVariables false
set_option linter.unusedSimpArgs false

end Go.Proofs.Ytidoofdofdhjpaa
/- The parser's fault: walked. -/
namespace Go.Proofs.Ytidoofdofdhjpaa
open Go Go.RowKit
set_option linter.unusedVariables false
set_option linter.unusedSimpArgs false

end Go.Proofs.Ytidoofdofdhjpaa
