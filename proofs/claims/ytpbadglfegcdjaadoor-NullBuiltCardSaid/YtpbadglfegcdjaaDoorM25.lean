/- The statement NullCounts of layer 8, walked. -/
import Derived.Test.YtpbadglfegcdjaaDoorM24
namespace Go.Proofs.YtpbadglfegcdjaaDoor
open Go Go.RowKit
set_option linter.unusedVariables false
set_option linter.unusedSimpArgs false

/-- .. and a node in its box. -/
structure NcS (w0 : World) (A : Option Addr) (l : List Nd) (c bx : Nat) (n : Nd) (w : World) : Prop where
  u : NuS w0 A l c w
  x : Blk w bx (ndC n) 36
theorem NcS.later {w0 w w' : World} {A : Option Addr} {l : List Nd} {c bx : Nat} {n : Nd} (h : NcS w0 A l c bx n w) (hb : Below w.heap.size w w') : NcS w0 A l c bx n w' := ⟨h.u.later hb, h.x.later hb⟩
theorem rep_none {lo hi : Nat} : tmsW 0 (lo : Int) (hi : Int) = if lo = 0 then 1 else 0 := by
  unfold tmsW powW
  rw [if_neg (show ¬ ((lo : Int) + 1 = 0) by omega)]
  by_cases h0 : lo = 0
  · rw [if_pos (show (lo : Int) = 0 by omega), if_pos h0]; split <;> rfl
  · rw [if_neg (show ¬ (lo : Int) = 0 by omega), if_neg h0]; split <;> rfl
set_option maxHeartbeats 64000000 in
set_option maxRecDepth 1000000 in
theorem nullcounts_walk (l : List Nd) (A : Option Addr) (c q : Nat) (hq : q < 65536) (hc1 : l.length ≤ c) (hl : l.length ≤ 9223372036854775807) (htx : Txt l) (w : World) (hrow : NRow w A l) (hT : U8T w) :
    Calls Tryd.prog 4 #[.agg #[.slice A l.length c], .int .u16 (q : Int)] w (Ans w (.bool true)) := by
  have HS0 := Lib.hid (NuS.new c hrow hT)
  have HTX := Lib.hid htx
  clear hrow htx hT
  go_enter Tryd.func4, Tryd.ntmps4
  go_upto_region 1 with (fail)
  generalize w.alloc (.cells #[.slice A l.length c] 24) = w1 at *
  go_wp2_with fail
  refine (awake8_any _ HS0.out.t).mono ?_; rintro e w2 ⟨rfl, hb⟩
  have HS2 := Lib.hid (HS0.out.later hb)
  clear hb HS0
  have e0 := HS2.out.s.box.cell 0
  simp at e0
  have HF := Lib.hid (few_any l A c hl HTX.out _ HS2.out.s.row)
  cases hf : fewB l with
  | false =>
    rw [hf] at HF
    clear hf
    go_wp2_with fail
    refine HF.out.mono ?_; rintro e w3 ⟨rfl, hb⟩
    have HS3 := Lib.hid (HS2.out.later hb)
    clear hb e0 HF HS2
    go_wp2_with fail
    refine (awake8_any _ HS3.out.t).mono ?_; rintro e WN ⟨rfl, hb⟩
    have HSY := Lib.hid (HS3.out.later hb)
    clear hb
    go_wp2
    go_ret
    exact ⟨rfl, HSY.out.s.bel⟩
  | true =>
    rw [hf] at HF
    have L1 := Lib.hid (few_txt hf).1
    clear hf
    go_wp2_with fail
    refine HF.out.mono ?_; rintro e w3 ⟨rfl, hb⟩
    have HS3 := Lib.hid (HS2.out.later hb)
    clear hb e0 HF HS2
    have e0 := HS3.out.s.box.cell 0
    simp at e0
    have HF := Lib.hid (rright_any l A c hc1 (by have := L1.out; omega) HTX.out _ HS3.out.s.row)
    cases hf : rgB l with
    | false =>
      rw [hf] at HF
      clear hf
      go_wp2_with fail
      refine HF.out.mono ?_; rintro e w4 ⟨rfl, hb⟩
      have HS4 := Lib.hid (HS3.out.later hb)
      clear hb e0 HF HS3
      go_wp2_with fail
      refine (awake8_any _ HS4.out.t).mono ?_; rintro e WN ⟨rfl, hb⟩
      have HSY := Lib.hid (HS4.out.later hb)
      clear hb
      go_wp2
      go_ret
      exact ⟨rfl, HSY.out.s.bel⟩
    | true =>
      rw [hf] at HF
      have hrg := (rgB_iff l).1 hf
      have hfo := hrg.1
      clear hf
      have hlen := L1.out
      have HSM : Hid (Sm l) := ⟨hfo, by omega, HTX.out⟩
      have hpos := hfo.1
      go_wp2_with fail
      refine HF.out.mono ?_; rintro e w4 ⟨rfl, hb⟩
      have HS4 := Lib.hid (HS3.out.later hb)
      clear hb e0 HF HS3
      have e0 := HS4.out.s.box.cell 0
      simp at e0
      have hposz : (0 : Int) < (l.length : Int) := by omega
      have hne : ((l.length : Int) == 0) = false := by rw [beq_eq_false_iff_ne]; omega
      have hmod : (q : Int) % (l.length : Int) = ((q % l.length : Nat) : Int) := by omega
      have hil : q % l.length < l.length := Nat.mod_lt _ hpos
      go_upto_region 4 with (fail)
      generalize hii : q % l.length = i at *
      rw [hmod]
      clear hii hmod hne hposz e0
      obtain ⟨ba, oa, rfl, -, -⟩ := HS4.out.s.row i hil
      have g : At10 w4 ba (oa + i * 10) (l.getD i nd0) := HS4.out.s.row.at hil rfl
      have hcs := (hfo.2.1 i hil).cs rfl
      have hn : atN l i = l.getD i nd0 := rfl
      have hsub := (rgB_iff _).2 (rgt_sub hrg hil)
      have hzero := (rgt_iff hfo).1 hrg i hil
      have C1 : Hid (∀ w', NuS w (some ⟨ba, oa, none⟩) l c w' → Calls Tryd.prog 14 #[.agg #[.slice (some ⟨ba, oa, none⟩) l.length c], .int .i64 (i : Int)] w' (Ans w' (.int .i64 ((wyN l i : Nat) : Int)))) := fun w' h => (h.isD hc1).nways HSM.out hil rfl
      have C2 : Hid (∀ w', NuS w (some ⟨ba, oa, none⟩) l c w' → Calls Tryd.prog 16 #[.agg #[.slice (some ⟨ba, oa, none⟩) l.length c], .int .i64 (i : Int)] w' (DPost w' (subL l i))) := fun w' h => (h.isD hc1).rsub HSM.out hil
      have C3 : Hid (∀ w' u, NuS w (some ⟨ba, oa, none⟩) l c w' → IsD (subL l i) u w' → Calls Tryd.prog 9 #[u] w' (Ans w' (.bool true))) := fun w' u h k => k.nright (HSM.out.sub hil) h.t hsub
      have CW : Hid (∀ j, j < l.length → ∀ w', NuS w (some ⟨ba, oa, none⟩) l c w' → Calls Tryd.prog 14 #[.agg #[.slice (some ⟨ba, oa, none⟩) l.length c], .int .i64 (j : Int)] w' (Ans w' (.int .i64 ((wyN l j : Nat) : Int)))) := fun j hj w' h => (h.isD hc1).nways HSM.out hj rfl
      obtain ⟨v, hv⟩ : ∃ v, wyN l i = v := ⟨_, rfl⟩
      rw [hv] at C1
      have HV := Lib.hid hv
      have hiz : (i : Int) < (l.length : Int) := by omega
      have HCS := Lib.hid hcs
      have HZ := Lib.hid hzero
      obtain ⟨n, hnn⟩ : ∃ n, l.getD i nd0 = n := ⟨_, rfl⟩
      have HND : Hid (atN l i = n) := hnn
      rw [show atN l i = n from hnn] at HCS HZ
      rw [hnn] at g
      have hb2 := (Below.refl w4.heap.size w4).alloc (Nat.le_refl _) (.cells (ndC n) 36)
      have HS6 : Hid (NcS w (some ⟨ba, oa, none⟩) l c w4.heap.size n (w4.alloc (.cells (ndC n) 36))) := ⟨HS4.out.later hb2, Blk.new _ _ _⟩
      clear hnn hcs hn hsub hzero hv hb2 hrg hfo
      have e0 := HS4.out.s.box.cell 0
      simp at e0
      obtain ⟨kk, na, nb, nlo, nhi, ncls, ntext⟩ := n
      unfold At10 at g
      simp only at g HZ
      obtain ⟨g0, g1, g2, g3, g4, g5, g6, g7, g8, g9⟩ := g
      have hnd : ndC ⟨kk, na, nb, nlo, nhi, ncls, ntext⟩ = #[.int .i64 kk, .int .i64 na, .int .i64 nb, .int .i64 nlo, .int .i64 nhi, .int .u64 (wd ncls 0), .int .u64 (wd ncls 1), .int .u64 (wd ncls 2), .int .u64 (wd ncls 3), .string (bs ntext)] := rfl
      rw [hnd] at HS6
      go_upto_region 5 with (fail)
      clear g0 g1 g2 g3 g4 g5 g6 g7 g8 g9 e0 HS4 hnd
      generalize w4.alloc (.cells #[.int .i64 kk, .int .i64 na, .int .i64 nb, .int .i64 nlo, .int .i64 nhi, .int .u64 (wd ncls 0), .int .u64 (wd ncls 1), .int .u64 (wd ncls 2), .int .u64 (wd ncls 3), .string (bs ntext)] 36) = w6 at *
      generalize w4.heap.size = bx at *
      cases HCS.out with
      | leaf hk hf =>
        have hlf := wyN_leaf (l := l) (i := i) (by rw [HND.out]; exact hk)
        rw [HV.out, HND.out] at hlf
        unfold leafW at hlf
        unfold leafK at hk
        simp only at hk hlf
        rcases hk with rfl | rfl | rfl
        · obtain rfl : v = 1 := by simpa using hlf
          clear HV hlf
          have e0 := HS6.out.u.s.box.cell 0
          simp at e0
          obtain ⟨f0, f1, f2, f3, f4, f5, f6, f7, f8, f9⟩ := ten_cells HS6.out.x
          go_wp2_with fail
          refine (C1.out _ HS6.out.u).mono ?_; rintro e x1 ⟨rfl, hb⟩
          have HS7 := Lib.hid (HS6.out.later hb)
          clear hb e0 f0 f1 f2 f3 f4 f5 f6 f7 f8 f9 HS6 C1
          have e0 := HS7.out.u.s.box.cell 0
          simp at e0
          obtain ⟨f0, f1, f2, f3, f4, f5, f6, f7, f8, f9⟩ := ten_cells HS7.out.x
          go_wp2_with fail
          refine (C2.out _ HS7.out.u).mono ?_; intro e x2 hp; obtain ⟨sv, rfl, ho, hb⟩ := hp
          have HI := Lib.hid ho.isD
          have HS7b := Lib.hid (HS7.out.later hb)
          clear hb ho e0 f0 f1 f2 f3 f4 f5 f6 f7 f8 f9 HS7 C2
          go_wp2_with fail
          refine (C3.out _ _ HS7b.out.u HI.out).mono ?_; rintro e x3 ⟨rfl, hb⟩
          have HS8 := Lib.hid (HS7b.out.later hb)
          clear hb HS7b HI C3
          have e0 := HS8.out.u.s.box.cell 0
          simp at e0
          obtain ⟨f0, f1, f2, f3, f4, f5, f6, f7, f8, f9⟩ := ten_cells HS8.out.x
          go_wp2
          go_ret
          exact ⟨rfl, HS8.out.u.s.bel⟩
        · obtain rfl : v = 0 := by simpa using hlf
          clear HV hlf
          have e0 := HS6.out.u.s.box.cell 0
          simp at e0
          obtain ⟨f0, f1, f2, f3, f4, f5, f6, f7, f8, f9⟩ := ten_cells HS6.out.x
          go_wp2_with fail
          refine (C1.out _ HS6.out.u).mono ?_; rintro e x1 ⟨rfl, hb⟩
          have HS7 := Lib.hid (HS6.out.later hb)
          clear hb e0 f0 f1 f2 f3 f4 f5 f6 f7 f8 f9 HS6 C1
          have e0 := HS7.out.u.s.box.cell 0
          simp at e0
          obtain ⟨f0, f1, f2, f3, f4, f5, f6, f7, f8, f9⟩ := ten_cells HS7.out.x
          go_wp2_with fail
          refine (C2.out _ HS7.out.u).mono ?_; intro e x2 hp; obtain ⟨sv, rfl, ho, hb⟩ := hp
          have HI := Lib.hid ho.isD
          have HS7b := Lib.hid (HS7.out.later hb)
          clear hb ho e0 f0 f1 f2 f3 f4 f5 f6 f7 f8 f9 HS7 C2
          go_wp2_with fail
          refine (C3.out _ _ HS7b.out.u HI.out).mono ?_; rintro e x3 ⟨rfl, hb⟩
          have HS8 := Lib.hid (HS7b.out.later hb)
          clear hb HS7b HI C3
          have e0 := HS8.out.u.s.box.cell 0
          simp at e0
          obtain ⟨f0, f1, f2, f3, f4, f5, f6, f7, f8, f9⟩ := ten_cells HS8.out.x
          go_wp2
          go_ret
          exact ⟨rfl, HS8.out.u.s.bel⟩
        · obtain rfl : v = 0 := by simpa using hlf
          clear HV hlf
          have e0 := HS6.out.u.s.box.cell 0
          simp at e0
          obtain ⟨f0, f1, f2, f3, f4, f5, f6, f7, f8, f9⟩ := ten_cells HS6.out.x
          go_wp2_with fail
          refine (C1.out _ HS6.out.u).mono ?_; rintro e x1 ⟨rfl, hb⟩
          have HS7 := Lib.hid (HS6.out.later hb)
          clear hb e0 f0 f1 f2 f3 f4 f5 f6 f7 f8 f9 HS6 C1
          have e0 := HS7.out.u.s.box.cell 0
          simp at e0
          obtain ⟨f0, f1, f2, f3, f4, f5, f6, f7, f8, f9⟩ := ten_cells HS7.out.x
          go_wp2_with fail
          refine (C2.out _ HS7.out.u).mono ?_; intro e x2 hp; obtain ⟨sv, rfl, ho, hb⟩ := hp
          have HI := Lib.hid ho.isD
          have HS7b := Lib.hid (HS7.out.later hb)
          clear hb ho e0 f0 f1 f2 f3 f4 f5 f6 f7 f8 f9 HS7 C2
          go_wp2_with fail
          refine (C3.out _ _ HS7b.out.u HI.out).mono ?_; rintro e x3 ⟨rfl, hb⟩
          have HS8 := Lib.hid (HS7b.out.later hb)
          clear hb HS7b HI C3
          have e0 := HS8.out.u.s.box.cell 0
          simp at e0
          obtain ⟨f0, f1, f2, f3, f4, f5, f6, f7, f8, f9⟩ := ten_cells HS8.out.x
          go_wp2
          go_ret
          exact ⟨rfl, HS8.out.u.s.bel⟩
      | one hk hi0 ha hb h7 hr hc hf =>
        simp only at hk ha hb h7 hr hc
        have hw1 := wyN_one (l := l) (i := i) hi0 (by rw [HND.out]; exact hk) (by rw [HND.out]; exact ha)
        rw [HV.out, HND.out] at hw1
        simp only at hw1
        have hkk : kk = 6 ∨ kk = 7 ∨ kk = 8 ∨ kk = 9 := by omega
        rcases hkk with rfl | rfl | rfl | rfl
        · rw [HZ.out (.inl rfl)] at hw1
          obtain rfl : v = 1 := by simpa [oneW] using hw1
          clear HV hw1 hf
          have e0 := HS6.out.u.s.box.cell 0
          simp at e0
          obtain ⟨f0, f1, f2, f3, f4, f5, f6, f7, f8, f9⟩ := ten_cells HS6.out.x
          go_wp2_with fail
          refine (C1.out _ HS6.out.u).mono ?_; rintro e x1 ⟨rfl, hb⟩
          have HS7 := Lib.hid (HS6.out.later hb)
          clear hb e0 f0 f1 f2 f3 f4 f5 f6 f7 f8 f9 HS6 C1
          have e0 := HS7.out.u.s.box.cell 0
          simp at e0
          obtain ⟨f0, f1, f2, f3, f4, f5, f6, f7, f8, f9⟩ := ten_cells HS7.out.x
          go_wp2_with fail
          refine (C2.out _ HS7.out.u).mono ?_; intro e x2 hp; obtain ⟨sv, rfl, ho, hb⟩ := hp
          have HI := Lib.hid ho.isD
          have HS7b := Lib.hid (HS7.out.later hb)
          clear hb ho e0 f0 f1 f2 f3 f4 f5 f6 f7 f8 f9 HS7 C2
          go_wp2_with fail
          refine (C3.out _ _ HS7b.out.u HI.out).mono ?_; rintro e x3 ⟨rfl, hb⟩
          have HS8 := Lib.hid (HS7b.out.later hb)
          clear hb HS7b HI C3
          have e0 := HS8.out.u.s.box.cell 0
          simp at e0
          obtain ⟨f0, f1, f2, f3, f4, f5, f6, f7, f8, f9⟩ := ten_cells HS8.out.x
          go_wp2
          go_ret
          exact ⟨rfl, HS8.out.u.s.bel⟩
        · rw [HZ.out (.inr rfl)] at hw1
          have hr7 := hr rfl
          obtain ⟨lo, rfl⟩ : ∃ lo : Nat, nlo = (lo : Int) := ⟨nlo.toNat, by omega⟩
          obtain ⟨hi, rfl⟩ : ∃ hi : Nat, nhi = (hi : Int) := ⟨nhi.toNat, by omega⟩
          have hv2 : v = if lo = 0 then 1 else 0 := by rw [hw1, ← rep_none (hi := hi)]; unfold oneW; rw [if_neg (by decide), if_pos rfl]
          by_cases h0 : lo = 0
          · rw [if_pos h0] at hv2
            subst h0 hv2
            clear HV hw1 hf hr hr7
            have e0 := HS6.out.u.s.box.cell 0
            simp at e0
            obtain ⟨f0, f1, f2, f3, f4, f5, f6, f7, f8, f9⟩ := ten_cells HS6.out.x
            go_wp2_with fail
            refine (C1.out _ HS6.out.u).mono ?_; rintro e x1 ⟨rfl, hb⟩
            have HS7 := Lib.hid (HS6.out.later hb)
            clear hb e0 f0 f1 f2 f3 f4 f5 f6 f7 f8 f9 HS6 C1
            have e0 := HS7.out.u.s.box.cell 0
            simp at e0
            obtain ⟨f0, f1, f2, f3, f4, f5, f6, f7, f8, f9⟩ := ten_cells HS7.out.x
            go_wp2_with fail
            refine (C2.out _ HS7.out.u).mono ?_; intro e x2 hp; obtain ⟨sv, rfl, ho, hb⟩ := hp
            have HI := Lib.hid ho.isD
            have HS7b := Lib.hid (HS7.out.later hb)
            clear hb ho e0 f0 f1 f2 f3 f4 f5 f6 f7 f8 f9 HS7 C2
            go_wp2_with fail
            refine (C3.out _ _ HS7b.out.u HI.out).mono ?_; rintro e x3 ⟨rfl, hb⟩
            have HS8 := Lib.hid (HS7b.out.later hb)
            clear hb HS7b HI C3
            have e0 := HS8.out.u.s.box.cell 0
            simp at e0
            obtain ⟨f0, f1, f2, f3, f4, f5, f6, f7, f8, f9⟩ := ten_cells HS8.out.x
            go_wp2
            go_ret
            exact ⟨rfl, HS8.out.u.s.bel⟩
          · rw [if_neg h0] at hv2
            subst hv2
            have hlz : ((lo : Int) == 0) = false := by rw [beq_eq_false_iff_ne]; omega
            clear HV hw1 hf hr hr7
            have e0 := HS6.out.u.s.box.cell 0
            simp at e0
            obtain ⟨f0, f1, f2, f3, f4, f5, f6, f7, f8, f9⟩ := ten_cells HS6.out.x
            go_wp2_with fail
            refine (C1.out _ HS6.out.u).mono ?_; rintro e x1 ⟨rfl, hb⟩
            have HS7 := Lib.hid (HS6.out.later hb)
            clear hb e0 f0 f1 f2 f3 f4 f5 f6 f7 f8 f9 HS6 C1
            have e0 := HS7.out.u.s.box.cell 0
            simp at e0
            obtain ⟨f0, f1, f2, f3, f4, f5, f6, f7, f8, f9⟩ := ten_cells HS7.out.x
            go_wp2_with fail
            refine (C2.out _ HS7.out.u).mono ?_; intro e x2 hp; obtain ⟨sv, rfl, ho, hb⟩ := hp
            have HI := Lib.hid ho.isD
            have HS7b := Lib.hid (HS7.out.later hb)
            clear hb ho e0 f0 f1 f2 f3 f4 f5 f6 f7 f8 f9 HS7 C2
            go_wp2_with fail
            refine (C3.out _ _ HS7b.out.u HI.out).mono ?_; rintro e x3 ⟨rfl, hb⟩
            have HS8 := Lib.hid (HS7b.out.later hb)
            clear hb HS7b HI C3
            have e0 := HS8.out.u.s.box.cell 0
            simp at e0
            obtain ⟨f0, f1, f2, f3, f4, f5, f6, f7, f8, f9⟩ := ten_cells HS8.out.x
            go_wp2
            go_ret
            exact ⟨rfl, HS8.out.u.s.bel⟩
        · obtain rfl : v = 0 := by simpa [oneW] using hw1
          clear HV hw1 hf
          have e0 := HS6.out.u.s.box.cell 0
          simp at e0
          obtain ⟨f0, f1, f2, f3, f4, f5, f6, f7, f8, f9⟩ := ten_cells HS6.out.x
          go_wp2_with fail
          refine (C1.out _ HS6.out.u).mono ?_; rintro e x1 ⟨rfl, hb⟩
          have HS7 := Lib.hid (HS6.out.later hb)
          clear hb e0 f0 f1 f2 f3 f4 f5 f6 f7 f8 f9 HS6 C1
          have e0 := HS7.out.u.s.box.cell 0
          simp at e0
          obtain ⟨f0, f1, f2, f3, f4, f5, f6, f7, f8, f9⟩ := ten_cells HS7.out.x
          go_wp2_with fail
          refine (C2.out _ HS7.out.u).mono ?_; intro e x2 hp; obtain ⟨sv, rfl, ho, hb⟩ := hp
          have HI := Lib.hid ho.isD
          have HS7b := Lib.hid (HS7.out.later hb)
          clear hb ho e0 f0 f1 f2 f3 f4 f5 f6 f7 f8 f9 HS7 C2
          go_wp2_with fail
          refine (C3.out _ _ HS7b.out.u HI.out).mono ?_; rintro e x3 ⟨rfl, hb⟩
          have HS8 := Lib.hid (HS7b.out.later hb)
          clear hb HS7b HI C3
          have e0 := HS8.out.u.s.box.cell 0
          simp at e0
          obtain ⟨f0, f1, f2, f3, f4, f5, f6, f7, f8, f9⟩ := ten_cells HS8.out.x
          go_wp2
          go_ret
          exact ⟨rfl, HS8.out.u.s.bel⟩
        · obtain rfl : v = 0 := by simpa [oneW] using hw1
          clear HV hw1 hf
          have e0 := HS6.out.u.s.box.cell 0
          simp at e0
          obtain ⟨f0, f1, f2, f3, f4, f5, f6, f7, f8, f9⟩ := ten_cells HS6.out.x
          go_wp2_with fail
          refine (C1.out _ HS6.out.u).mono ?_; rintro e x1 ⟨rfl, hb⟩
          have HS7 := Lib.hid (HS6.out.later hb)
          clear hb e0 f0 f1 f2 f3 f4 f5 f6 f7 f8 f9 HS6 C1
          have e0 := HS7.out.u.s.box.cell 0
          simp at e0
          obtain ⟨f0, f1, f2, f3, f4, f5, f6, f7, f8, f9⟩ := ten_cells HS7.out.x
          go_wp2_with fail
          refine (C2.out _ HS7.out.u).mono ?_; intro e x2 hp; obtain ⟨sv, rfl, ho, hb⟩ := hp
          have HI := Lib.hid ho.isD
          have HS7b := Lib.hid (HS7.out.later hb)
          clear hb ho e0 f0 f1 f2 f3 f4 f5 f6 f7 f8 f9 HS7 C2
          go_wp2_with fail
          refine (C3.out _ _ HS7b.out.u HI.out).mono ?_; rintro e x3 ⟨rfl, hb⟩
          have HS8 := Lib.hid (HS7b.out.later hb)
          clear hb HS7b HI C3
          have e0 := HS8.out.u.s.box.cell 0
          simp at e0
          obtain ⟨f0, f1, f2, f3, f4, f5, f6, f7, f8, f9⟩ := ten_cells HS8.out.x
          go_wp2
          go_ret
          exact ⟨rfl, HS8.out.u.s.bel⟩
      | two hk hi0 hb ha hf0 hl2 hc hf =>
        simp only at hk ha hb hl2 hc
        have hfl := firstP_le l (i - 1)
        obtain ⟨p, hp⟩ : ∃ p, firstP l (i - 1) = p + 1 := ⟨firstP l (i - 1) - 1, by omega⟩
        rw [hp] at ha hfl
        obtain rfl : na = (p : Int) := by omega
        have hw1 := wyN_two (l := l) (i := i) (p := p) hi0 (by rw [HND.out]; exact hk) (by rw [HND.out]) (by omega) (by rw [HND.out]; exact hb)
        rw [HV.out, HND.out] at hw1
        simp only at hw1
        obtain ⟨q, hqe⟩ : ∃ q, i = q + 1 := ⟨i - 1, by omega⟩
        obtain rfl : nb = (q : Int) := by omega
        rw [show i - 1 = q by omega] at hw1
        have CP := Lib.hid (CW.out p (by omega))
        have CQ := Lib.hid (CW.out q (by omega))
        have hy2 := wyN_le l p
        have hx2 := wyN_le l q
        generalize wyN l p = y at *
        generalize wyN l q = x at *
        clear hf hfl hp hf0 HV HZ HCS CW hqe ha hb hl2 hc
        rcases hk with rfl | rfl
        · have hxy : y * x ≤ 4 := Nat.mul_le_mul hy2 hx2
          have hcc : ((y * x : Nat) : Int) = (y : Int) * (x : Int) := by simp
          have hm1 : (y : Int) * (x : Int) ≤ 4 := by rw [← hcc]; omega
          have hm0 : 0 ≤ (y : Int) * (x : Int) := by rw [← hcc]; omega
          have hv2 : v = min (y * x) 2 := by rw [hw1]; unfold twoW; rw [if_pos rfl]
          have hmn : min (2 : Int) ((y : Int) * (x : Int)) = (v : Int) := by rw [← hcc]; omega
          have hvl : v ≤ 2 := by omega
          have hvv : ((v : Int) == (v : Int)) = true := by simp
          have hv0 : ¬ (v : Int) < 0 := by omega
          have hv3 : ¬ (v : Int) > 2 := by omega
          clear hw1 hcc hxy hv2
          have e0 := HS6.out.u.s.box.cell 0
          simp at e0
          obtain ⟨f0, f1, f2, f3, f4, f5, f6, f7, f8, f9⟩ := ten_cells HS6.out.x
          go_wp2_with fail
          refine (C1.out _ HS6.out.u).mono ?_; rintro e x1 ⟨rfl, hb⟩
          have HS7 := Lib.hid (HS6.out.later hb)
          clear hb e0 f0 f1 f2 f3 f4 f5 f6 f7 f8 f9 HS6 C1
          have e0 := HS7.out.u.s.box.cell 0
          simp at e0
          obtain ⟨f0, f1, f2, f3, f4, f5, f6, f7, f8, f9⟩ := ten_cells HS7.out.x
          go_wp2_with fail
          refine (C2.out _ HS7.out.u).mono ?_; intro e x2 hp; obtain ⟨sv, rfl, ho, hb⟩ := hp
          have HI := Lib.hid ho.isD
          have HS7b := Lib.hid (HS7.out.later hb)
          clear hb ho e0 f0 f1 f2 f3 f4 f5 f6 f7 f8 f9 HS7 C2
          go_wp2_with fail
          refine (C3.out _ _ HS7b.out.u HI.out).mono ?_; rintro e x3 ⟨rfl, hb⟩
          have HS8 := Lib.hid (HS7b.out.later hb)
          clear hb HS7b HI C3
          have e0 := HS8.out.u.s.box.cell 0
          simp at e0
          obtain ⟨f0, f1, f2, f3, f4, f5, f6, f7, f8, f9⟩ := ten_cells HS8.out.x
          go_upto_region 15 with (fail)
          clear e0 f0 f1 f2 f3 f4 f5 f6 f7 f8 f9
          refine wp_region_stable (S := (NcS w (some ⟨ba, oa, none⟩) l c bx ⟨4, (p : Int), (q : Int), nlo, nhi, ncls, ntext⟩)) (hSt := fun _ _ h hb => h.later hb) (plan := [[(7, none)], [(2, none)], [(6, none)], [(71, some 2)], [(70, some 1), (72, some 3)], [(2, none)], [(6, none)], [(75, some 6)], [(74, some 5), (76, some 7)], [(73, some 4), (77, some 8)], [(78, some 9)], [(69, some 0), (79, some 10)], [(80, some 11)]]) (by kernel_rfl) (by kernel_rfl) (by kernel_rfl) ?hS ?_
          rotate_left
          iterate 13 first
            | (refine chain_skip (by rfl) (by rfl) ?_)
            | (apply chain_want (by rfl)
               · intro act wx hS hr
                 simp at hr
                 have e0 := hS.u.s.box.cell 0
                 simp at e0
                 obtain ⟨f0, f1, f2, f3, f4, f5, f6, f7, f8, f9⟩ := ten_cells hS.x
                 go_simp
                 (try go_ints)
                 first
                   | ((with_reducible refine (CP.out _ hS.u).mono ?_); rintro e w' ⟨rfl, hb⟩; exact Done.mk hb)
                   | ((with_reducible refine (CQ.out _ hS.u).mono ?_); rintro e w' ⟨rfl, hb⟩; exact Done.mk hb)
                   | exact Done.same
              )
          show ∀ w', _ → _
          intro wy hw
          simp [Act.put]
          case hS => exact HS8.out
          have HS9 := Lib.hid hw
          clear hw HS8
          go_wp2
          go_ret
          exact ⟨rfl, HS9.out.u.s.bel⟩
        · have hv2 : v = min (y + x) 2 := by rw [hw1]; unfold twoW; rw [if_neg (by decide)]
          have hmn : min (2 : Int) ((y : Int) + (x : Int)) = (v : Int) := by omega
          have hvl : v ≤ 2 := by omega
          have hvv : ((v : Int) == (v : Int)) = true := by simp
          have hv0 : ¬ (v : Int) < 0 := by omega
          have hv3 : ¬ (v : Int) > 2 := by omega
          clear hw1 hv2
          have e0 := HS6.out.u.s.box.cell 0
          simp at e0
          obtain ⟨f0, f1, f2, f3, f4, f5, f6, f7, f8, f9⟩ := ten_cells HS6.out.x
          go_wp2_with fail
          refine (C1.out _ HS6.out.u).mono ?_; rintro e x1 ⟨rfl, hb⟩
          have HS7 := Lib.hid (HS6.out.later hb)
          clear hb e0 f0 f1 f2 f3 f4 f5 f6 f7 f8 f9 HS6 C1
          have e0 := HS7.out.u.s.box.cell 0
          simp at e0
          obtain ⟨f0, f1, f2, f3, f4, f5, f6, f7, f8, f9⟩ := ten_cells HS7.out.x
          go_wp2_with fail
          refine (C2.out _ HS7.out.u).mono ?_; intro e x2 hp; obtain ⟨sv, rfl, ho, hb⟩ := hp
          have HI := Lib.hid ho.isD
          have HS7b := Lib.hid (HS7.out.later hb)
          clear hb ho e0 f0 f1 f2 f3 f4 f5 f6 f7 f8 f9 HS7 C2
          go_wp2_with fail
          refine (C3.out _ _ HS7b.out.u HI.out).mono ?_; rintro e x3 ⟨rfl, hb⟩
          have HS8 := Lib.hid (HS7b.out.later hb)
          clear hb HS7b HI C3
          have e0 := HS8.out.u.s.box.cell 0
          simp at e0
          obtain ⟨f0, f1, f2, f3, f4, f5, f6, f7, f8, f9⟩ := ten_cells HS8.out.x
          go_upto_region 17 with (fail)
          clear e0 f0 f1 f2 f3 f4 f5 f6 f7 f8 f9
          refine wp_region_stable (S := (NcS w (some ⟨ba, oa, none⟩) l c bx ⟨5, (p : Int), (q : Int), nlo, nhi, ncls, ntext⟩)) (hSt := fun _ _ h hb => h.later hb) (plan := [[(7, none)], [(2, none)], [(6, none)], [(85, some 2)], [(84, some 1), (86, some 3)], [(2, none)], [(6, none)], [(89, some 6)], [(88, some 5), (90, some 7)], [(87, some 4), (91, some 8)], [(92, some 9)], [(83, some 0), (93, some 10)], [(94, some 11)]]) (by kernel_rfl) (by kernel_rfl) (by kernel_rfl) ?hS ?_
          rotate_left
          iterate 13 first
            | (refine chain_skip (by rfl) (by rfl) ?_)
            | (apply chain_want (by rfl)
               · intro act wx hS hr
                 simp at hr
                 have e0 := hS.u.s.box.cell 0
                 simp at e0
                 obtain ⟨f0, f1, f2, f3, f4, f5, f6, f7, f8, f9⟩ := ten_cells hS.x
                 go_simp
                 (try go_ints)
                 first
                   | ((with_reducible refine (CP.out _ hS.u).mono ?_); rintro e w' ⟨rfl, hb⟩; exact Done.mk hb)
                   | ((with_reducible refine (CQ.out _ hS.u).mono ?_); rintro e w' ⟨rfl, hb⟩; exact Done.mk hb)
                   | exact Done.same
              )
          show ∀ w', _ → _
          intro wy hw
          simp [Act.put]
          case hS => exact HS8.out
          have HS9 := Lib.hid hw
          clear hw HS8
          go_wp2
          go_ret
          exact ⟨rfl, HS9.out.u.s.bel⟩
end Go.Proofs.YtpbadglfegcdjaaDoor
/- The statement NullBuilt of layer 8, walked. -/
namespace Go.Proofs.YtpbadglfegcdjaaDoor
open Go Go.RowKit
set_option linter.unusedVariables false
set_option linter.unusedSimpArgs false

structure NbS (w0 : World) (A : Option Addr) (l : List Nd) (c be : Nat) (Ae : Option Addr) (bb : Nat) (Ab : Option Addr) (w : World) : Prop where
  u : NuS w0 A l c w
  e : Dx be Ae anE 1 1 w
  b : Dx bb Ab anB 1 1 w
theorem NbS.later {w0 w w' : World} {A : Option Addr} {l : List Nd} {c be : Nat} {Ae : Option Addr} {bb : Nat} {Ab : Option Addr} (h : NbS w0 A l c be Ae bb Ab w) (hb : Below w.heap.size w w') : NbS w0 A l c be Ae bb Ab w' := ⟨h.u.later hb, h.e.later hb, h.b.later hb⟩
theorem NbS.load {w0 w : World} {A : Option Addr} {l : List Nd} {c be : Nat} {Ae : Option Addr} {bb : Nat} {Ab : Option Addr} (h : NbS w0 A l c be Ae bb Ab w) : w.cell? ⟨w0.heap.size, 0, none⟩ = some (.slice A l.length c) := by
  have := h.u.s.box.cell 0; simpa using this
theorem built_ways {l : List Nd} (h : Form l) : wyN (pairL 4 l anB) (l.length + 1) = 0 ∧ wyN (pairL 5 l anE) (l.length + 1) = min (wyN l (l.length - 1) + 1) 2 ∧ wyN (pairL 4 anE l) (l.length + 1) = wyN l (l.length - 1) := by
  have hx := wyN_le l (l.length - 1)
  have hb : wyN anB (anB.length - 1) = 0 := by decide
  have he : wyN anE (anE.length - 1) = 1 := by decide
  have h1 := (wyN_pair h.1 anB_sm.form (kind := 4) (.inl rfl)).2.2
  have h2 := (wyN_pair h.1 anE_sm.form (kind := 5) (.inr rfl)).2.2
  have h3 := (wyN_pair anE_sm.form.1 h (kind := 4) (.inl rfl)).2.2
  rw [hb] at h1
  rw [he] at h2
  rw [he, show anE.length + l.length = l.length + 1 by rw [show anE.length = 1 from rfl]; omega] at h3
  refine ⟨?_, ?_, ?_⟩
  · rw [show l.length + 1 = l.length + anB.length from rfl, h1]; unfold twoW; rw [if_pos rfl]; omega
  · rw [show l.length + 1 = l.length + anE.length from rfl, h2]; unfold twoW; rw [if_neg (by decide)]
  · rw [h3]; unfold twoW; rw [if_pos rfl]; omega
theorem built_right {l : List Nd} (h : Rgt l) (lo : Nat) (hlo : lo < 256) : (rgB (wrapL 6 0 0 l) = decide (wyN l (l.length - 1) = 0)) ∧ (rgB (wrapL 7 (lo : Int) 255 l) = decide (wyN l (l.length - 1) = 0)) ∧ rgB (wrapL 8 0 0 l) = true ∧ rgB (wrapL 6 0 0 (pairL 4 l anB)) = true := by
  have hF := h.1
  have h6 := rgt_wrap hF (wrap_form (kind := 6) hF (.inl rfl) ⟨rfl, rfl⟩) (by omega)
  have h7 := rgt_wrap hF (wrap_form7 (lo := (lo : Int)) (hi := 255) hF (by omega) (by omega) (by omega)) (by omega)
  have h8 := rgt_wrap hF (wrap_form (kind := 8) hF (.inr (.inl rfl)) ⟨rfl, rfl⟩) (by omega)
  have hP : Form (pairL 4 l anB) := pair_form hF anB_sm.form (.inl rfl)
  have hB : Rgt anB := (rgt_iff anB_sm.form).2 (fun i hi hk => by
    have hi1 : i < 1 := hi
    obtain rfl : i = 0 := by omega
    rcases hk with hk | hk <;> cases hk)
  have hPR : Rgt (pairL 4 l anB) := (rgt_pair hF anB_sm.form (.inl rfl)).2 ⟨h, hB⟩
  have hs := rgt_wrap hP (wrap_form (kind := 6) hP (.inl rfl) ⟨rfl, rfl⟩) (by omega)
  have hlen : (pairL 4 l anB).length - 1 = l.length + 1 := by unfold pairL; rw [List.length_append, List.length_append, List.length_map]; rfl
  have key : ∀ {m : List Nd} {P : Prop} [Decidable P], (Rgt m ↔ P) → rgB m = decide P := fun {m P} _ hh => by
    cases hb : rgB m with
    | true => exact (decide_eq_true (hh.1 ((rgB_iff m).1 hb))).symm
    | false => exact (decide_eq_false (fun hp => by rw [(rgB_iff m).2 (hh.2 hp)] at hb; cases hb)).symm
  refine ⟨key ⟨fun hr => (h6.1 hr).2 (.inl rfl), fun hz => h6.2 ⟨h, fun _ => hz⟩⟩, key ⟨fun hr => (h7.1 hr).2 (.inr rfl), fun hz => h7.2 ⟨h, fun _ => hz⟩⟩, (rgB_iff _).2 (h8.2 ⟨h, fun hk => by omega⟩), (rgB_iff _).2 (hs.2 ⟨hPR, fun _ => by rw [hlen]; exact (built_ways hF).1⟩)⟩
set_option maxHeartbeats 64000000 in
set_option maxRecDepth 1000000 in
theorem nullbuilt_walk (l : List Nd) (A : Option Addr) (c lo : Nat) (hlo : lo < 256) (hc1 : l.length ≤ c) (hl : l.length ≤ 9223372036854775807) (htx : Txt l) (w : World) (hrow : NRow w A l) (hT : U8T w) :
    Calls Tryd.prog 5 #[.agg #[.slice A l.length c], .int .u8 (lo : Int)] w (Ans w (.bool true)) := by
  have HS0 := Lib.hid (NuS.new c hrow hT)
  have HTX := Lib.hid htx
  clear hrow htx hT
  go_enter Tryd.func5, Tryd.ntmps5
  go_upto_region 1 with (fail)
  generalize w.alloc (.cells #[.slice A l.length c] 24) = w1 at *
  go_wp2_with fail
  refine (awake8_any _ HS0.out.t).mono ?_; rintro e w2 ⟨rfl, hb⟩
  have HS2 := Lib.hid (HS0.out.later hb)
  clear hb HS0
  have e0 := HS2.out.s.box.cell 0
  simp at e0
  have HF := Lib.hid (few_any l A c hl HTX.out _ HS2.out.s.row)
  cases hf : fewB l with
  | false =>
    rw [hf] at HF
    clear hf
    go_wp2_with fail
    refine HF.out.mono ?_; rintro e w3 ⟨rfl, hb⟩
    have HS3 := Lib.hid (HS2.out.later hb)
    clear hb e0 HF HS2
    go_wp2_with fail
    refine (awake8_any _ HS3.out.t).mono ?_; rintro e WN ⟨rfl, hb⟩
    have HSY := Lib.hid (HS3.out.later hb)
    clear hb
    go_wp2
    go_ret
    exact ⟨rfl, HSY.out.s.bel⟩
  | true =>
    rw [hf] at HF
    have L1 := Lib.hid (few_txt hf).1
    clear hf
    go_wp2_with fail
    refine HF.out.mono ?_; rintro e w3 ⟨rfl, hb⟩
    have HS3 := Lib.hid (HS2.out.later hb)
    clear hb e0 HF HS2
    have e0 := HS3.out.s.box.cell 0
    simp at e0
    have HF := Lib.hid (rright_any l A c hc1 (by have := L1.out; omega) HTX.out _ HS3.out.s.row)
    cases hf : rgB l with
    | false =>
      rw [hf] at HF
      clear hf
      go_wp2_with fail
      refine HF.out.mono ?_; rintro e w4 ⟨rfl, hb⟩
      have HS4 := Lib.hid (HS3.out.later hb)
      clear hb e0 HF HS3
      go_wp2_with fail
      refine (awake8_any _ HS4.out.t).mono ?_; rintro e WN ⟨rfl, hb⟩
      have HSY := Lib.hid (HS4.out.later hb)
      clear hb
      go_wp2
      go_ret
      exact ⟨rfl, HSY.out.s.bel⟩
    | true =>
      rw [hf] at HF
      have hrg := (rgB_iff l).1 hf
      have hfo := hrg.1
      clear hf
      have hlen := L1.out
      have HSM : Hid (Sm l) := ⟨hfo, by omega, HTX.out⟩
      have hpos := hfo.1
      obtain ⟨hw1, hw2, hw3⟩ := built_ways hfo
      obtain ⟨hr1, hr2, hr3, hr4⟩ := built_right hrg lo hlo
      have MS : Hid (Sm (pairL 4 l anB)) := HSM.out.pair anB_sm (by rw [show anB.length = 1 from rfl]; omega) (.inl rfl)
      have MO : Hid (Sm (pairL 5 l anE)) := HSM.out.pair anE_sm (by rw [show anE.length = 1 from rfl]; omega) (.inr rfl)
      have MX : Hid (Sm (pairL 4 anE l)) := anE_sm.pair HSM.out (by rw [show anE.length = 1 from rfl]; omega) (.inl rfl)
      have M6 : Hid (Sm (wrapL 6 0 0 l)) := HSM.out.wrap (by omega) (.inl rfl)
      have M7 : Hid (Sm (wrapL 7 (lo : Int) 255 l)) := HSM.out.rep (by omega) (by omega) (by omega) (by omega)
      have M8 : Hid (Sm (wrapL 8 0 0 l)) := HSM.out.wrap (by omega) (.inr (.inl rfl))
      have lS : (pairL 4 l anB).length = l.length + 2 := by unfold pairL; rw [List.length_append, List.length_append, List.length_map]; rfl
      have lO : (pairL 5 l anE).length = l.length + 2 := by unfold pairL; rw [List.length_append, List.length_append, List.length_map]; rfl
      have lX : (pairL 4 anE l).length = l.length + 2 := by unfold pairL; rw [List.length_append, List.length_append, List.length_map, show anE.length = 1 from rfl]; simp; omega
      have M9 : Hid (Sm (wrapL 6 0 0 (pairL 4 l anB))) := MS.out.wrap (by omega) (.inl rfl)
      have hx2 := wyN_le l (l.length - 1)
      obtain ⟨x, hx⟩ : ∃ x, wyN l (l.length - 1) = x := ⟨_, rfl⟩
      rw [hx] at hw2 hw3 hr1 hr2 hx2
      obtain ⟨y, hy⟩ : ∃ y, min (x + 1) 2 = y := ⟨_, rfl⟩
      rw [hy] at hw2
      have hyz : min (2 : Int) ((x : Int) + 1) = (y : Int) := by omega
      have C1 : Hid (∀ w', NuS w A l c w' → Calls Tryd.prog 14 #[.agg #[.slice A l.length c], .int .i64 ((l.length : Int) - 1)] w' (Ans w' (.int .i64 (x : Int)))) := fun w' h => by
        have q := (h.isD hc1).nways HSM.out (i := l.length - 1) (by omega) hx
        rwa [show ((l.length - 1 : Nat) : Int) = (l.length : Int) - 1 by omega] at q
      have WS : Hid (∀ w' u, IsD (pairL 4 l anB) u w' → Calls Tryd.prog 14 #[u, .int .i64 ((l.length : Int) + 1)] w' (Ans w' (.int .i64 0))) := fun w' u h => h.nways MS.out (i := l.length + 1) (by omega) (x := 0) hw1
      have WO : Hid (∀ w' u, IsD (pairL 5 l anE) u w' → Calls Tryd.prog 14 #[u, .int .i64 ((l.length : Int) + 1)] w' (Ans w' (.int .i64 (y : Int)))) := fun w' u h => h.nways MO.out (i := l.length + 1) (by omega) hw2
      have WX : Hid (∀ w' u, IsD (pairL 4 anE l) u w' → Calls Tryd.prog 14 #[u, .int .i64 ((l.length : Int) + 1)] w' (Ans w' (.int .i64 (x : Int)))) := fun w' u h => h.nways MX.out (i := l.length + 1) (by omega) hw3
      have R6 : Hid (∀ w' u, IsD (wrapL 6 0 0 l) u w' → U8T w' → Calls Tryd.prog 9 #[u] w' (Ans w' (.bool (decide (x = 0))))) := fun w' u h t => h.nright M6.out t hr1
      have R7 : Hid (∀ w' u, IsD (wrapL 7 (lo : Int) 255 l) u w' → U8T w' → Calls Tryd.prog 9 #[u] w' (Ans w' (.bool (decide (x = 0))))) := fun w' u h t => h.nright M7.out t hr2
      have R8 : Hid (∀ w' u, IsD (wrapL 8 0 0 l) u w' → U8T w' → Calls Tryd.prog 9 #[u] w' (Ans w' (.bool true))) := fun w' u h t => h.nright M8.out t hr3
      have R9 : Hid (∀ w' u, IsD (wrapL 6 0 0 (pairL 4 l anB)) u w' → U8T w' → Calls Tryd.prog 9 #[u] w' (Ans w' (.bool true))) := fun w' u h t => h.nright M9.out t hr4
      clear hw1 hw2 hw3 hr1 hr2 hr3 hr4 hx hrg hfo M6 M7 M8 M9 MO MX
      go_wp2_with fail
      refine HF.out.mono ?_; rintro e w4 ⟨rfl, hb⟩
      have HS4 := Lib.hid (HS3.out.later hb)
      clear hb e0 HF HS3
      go_upto_region 4 with (fail)
      obtain ⟨ht, hb1⟩ := dx_one anEn w4 (cs := #[.int .i64 1, .int .i64 0, .int .i64 0, .int .i64 0, .int .i64 0, .int .u64 0, .int .u64 0, .int .u64 0, .int .u64 0, .string ⟨#[]⟩]) (by unfold anEn; rw [ndC_zero]; rfl)
      have HE : Hid (Dx (w4.heap.size + 1) (some ⟨w4.heap.size, 0, none⟩) anE 1 1 _) := ht
      have HS5 := Lib.hid (HS4.out.later hb1)
      clear ht hb1 HS4
      generalize (w4.alloc (.cells #[.int .i64 1, .int .i64 0, .int .i64 0, .int .i64 0, .int .i64 0, .int .u64 0, .int .u64 0, .int .u64 0, .int .u64 0, .string ⟨#[]⟩] 36)).alloc (.cells #[.slice (some ⟨w4.heap.size, 0, none⟩) 1 1] 24) = w5 at *
      generalize w4.heap.size + 1 = be at *
      generalize (some ⟨w4.heap.size, 0, none⟩ : Option Addr) = Ae at *
      go_upto_region 5 with (fail)
      obtain ⟨ht, hb1⟩ := dx_one anBn w5 (cs := #[.int .i64 2, .int .i64 0, .int .i64 0, .int .i64 0, .int .i64 0, .int .u64 0, .int .u64 0, .int .u64 0, .int .u64 0, .string ⟨#[]⟩]) (by unfold anBn; rw [ndC_zero]; rfl)
      have HSA : Hid (NbS w A l c be Ae (w5.heap.size + 1) (some ⟨w5.heap.size, 0, none⟩) _) := ⟨HS5.out.later hb1, HE.out.later hb1, ht⟩
      clear ht hb1 HS5 HE
      generalize (w5.alloc (.cells #[.int .i64 2, .int .i64 0, .int .i64 0, .int .i64 0, .int .i64 0, .int .u64 0, .int .u64 0, .int .u64 0, .int .u64 0, .string ⟨#[]⟩] 36)).alloc (.cells #[.slice (some ⟨w5.heap.size, 0, none⟩) 1 1] 24) = w6 at *
      generalize w5.heap.size + 1 = bb at *
      generalize (some ⟨w5.heap.size, 0, none⟩ : Option Addr) = Ab at *
      have hmin : -9223372036854775808 ≤ (l.length : Int) - 1 := by omega
      have hmax : (l.length : Int) + 1 ≤ 1000 := by omega
      have e0 := HSA.out.load
      have e1 := HSA.out.e.load
      have e2 := HSA.out.b.load
      go_wp2_with fail
      refine (C1.out _ HSA.out.u).mono ?_; rintro e x1 ⟨rfl, hb⟩
      have HSB := Lib.hid (HSA.out.later hb)
      clear hb e0 e1 e2 HSA C1
      have e0 := HSB.out.load
      have e1 := HSB.out.e.load
      have e2 := HSB.out.b.load
      have CALL := Lib.hid ((HSB.out.u.isD hc1).rpair HSB.out.b.isD HSM.out anB_sm 4)
      go_wp2_with fail
      refine CALL.out.mono ?_; intro e v hp; obtain ⟨s, rfl, ho, hb⟩ := hp
      obtain ⟨As, cs, hc, hv, hr⟩ := ho.isD
      rw [lS] at hc hv
      obtain rfl : s = .slice As (l.length + 2) cs := by simpa using hv
      have hbb := hb.trans ((Below.refl _ _).alloc hb.size (.cells #[.slice As (l.length + 2) cs] 24))
      have HDS : Hid (Dx v.heap.size As (pairL 4 l anB) (l.length + 2) cs _) := dx_of hr lS hc
      have HSC := Lib.hid (HSB.out.later hbb)
      clear hb hbb ho hr hv hc e0 e1 e2 CALL HSB
      go_upto_region 8 with (fail)
      generalize v.alloc (.cells #[.slice As (l.length + 2) cs] 24) = w7 at *
      generalize v.heap.size = b9 at *
      have e0 := HSC.out.load
      have e1 := HSC.out.e.load
      have e2 := HSC.out.b.load
      have CALL := Lib.hid ((HSC.out.u.isD hc1).rpair HSC.out.e.isD HSM.out anE_sm 5)
      go_wp2_with fail
      refine CALL.out.mono ?_; intro e v hp; obtain ⟨s, rfl, ho, hb⟩ := hp
      obtain ⟨Ao, co, hc, hv, hr⟩ := ho.isD
      rw [lO] at hc hv
      obtain rfl : s = .slice Ao (l.length + 2) co := by simpa using hv
      have hbb := hb.trans ((Below.refl _ _).alloc hb.size (.cells #[.slice Ao (l.length + 2) co] 24))
      have HDO : Hid (Dx v.heap.size Ao (pairL 5 l anE) (l.length + 2) co _) := dx_of hr lO hc
      have HDS2 := Lib.hid (HDS.out.later hbb)
      have HSD := Lib.hid (HSC.out.later hbb)
      clear hb hbb ho hr hv hc e0 e1 e2 CALL HSC HDS
      go_upto_region 9 with (fail)
      generalize v.alloc (.cells #[.slice Ao (l.length + 2) co] 24) = w8 at *
      generalize v.heap.size = b10 at *
      have e0 := HSD.out.load
      have e1 := HSD.out.e.load
      have e2 := HSD.out.b.load
      have CALL := Lib.hid (HSD.out.e.isD.rpair (HSD.out.u.isD hc1) anE_sm HSM.out 4)
      go_wp2_with fail
      refine CALL.out.mono ?_; intro e v hp; obtain ⟨s, rfl, ho, hb⟩ := hp
      obtain ⟨Ax, cx, hc, hv, hr⟩ := ho.isD
      rw [lX] at hc hv
      obtain rfl : s = .slice Ax (l.length + 2) cx := by simpa using hv
      have hbb := hb.trans ((Below.refl _ _).alloc hb.size (.cells #[.slice Ax (l.length + 2) cx] 24))
      have HDX : Hid (Dx v.heap.size Ax (pairL 4 anE l) (l.length + 2) cx _) := dx_of hr lX hc
      have HDS3 := Lib.hid (HDS2.out.later hbb)
      have HDO2 := Lib.hid (HDO.out.later hbb)
      have HSE := Lib.hid (HSD.out.later hbb)
      clear hb hbb ho hr hv hc e0 e1 e2 CALL HSD HDS2 HDO
      go_upto_region 10 with (fail)
      generalize v.alloc (.cells #[.slice Ax (l.length + 2) cx] 24) = w9 at *
      generalize v.heap.size = b11 at *
      clear lS lO lX
      have d0 := HDS3.out.load
      have d1 := HDO2.out.load
      have d2 := HDX.out.load
      go_wp2_with fail
      refine (WS.out _ _ HDS3.out.isD).mono ?_; rintro e y1 ⟨rfl, hb⟩
      have HS1 := Lib.hid (HDS3.out.later hb)
      have HO1 := Lib.hid (HDO2.out.later hb)
      have HX1 := Lib.hid (HDX.out.later hb)
      have HU1 := Lib.hid (HSE.out.u.later hb)
      clear hb d0 d1 d2 HDS3 HDO2 HDX HSE WS
      have d1 := HO1.out.load
      have d2 := HX1.out.load
      have hyy : ((y : Int) != (y : Int)) = false := by simp
      have hxx : ((x : Int) != (x : Int)) = false := by simp
      go_wp2_with fail
      refine (WO.out _ _ HO1.out.isD).mono ?_; rintro e y2 ⟨rfl, hb⟩
      have HS2 := Lib.hid (HS1.out.later hb)
      have HX2 := Lib.hid (HX1.out.later hb)
      have HU2 := Lib.hid (HU1.out.later hb)
      clear hb d1 d2 HS1 HX1 HU1 WO HO1
      have d2 := HX2.out.load
      go_wp2_with fail
      refine (WX.out _ _ HX2.out.isD).mono ?_; rintro e y3 ⟨rfl, hb⟩
      have HS3 := Lib.hid (HS2.out.later hb)
      have HU3 := Lib.hid (HU2.out.later hb)
      clear hb d2 HS2 HX2 HU2 WX
      have e0 := HU3.out.s.box.cell 0
      simp at e0
      have d0 := HS3.out.load
      have CALL := Lib.hid ((HU3.out.isD hc1).rwrap HSM.out 6 0 0)
      go_wp2_with fail
      refine CALL.out.mono ?_; intro e y4 hp; obtain ⟨s, rfl, ho, hb⟩ := hp
      have HI := Lib.hid ho.isD
      have HS4 := Lib.hid (HS3.out.later hb)
      have HU4 := Lib.hid (HU3.out.later hb)
      clear hb ho HS3 HU3 CALL e0 d0
      go_wp2_with fail
      refine (R6.out _ _ HI.out HU4.out.t).mono ?_; rintro e y5 ⟨rfl, hb⟩
      have HS5 := Lib.hid (HS4.out.later hb)
      have HU5 := Lib.hid (HU4.out.later hb)
      clear hb HS4 HU4 HI R6
      have hxd : ((x : Int) == 0) = decide (x = 0) := by
        by_cases h : x = 0
        · subst h; rfl
        · rw [decide_eq_false h, beq_eq_false_iff_ne]; omega
      have hdd : ∀ b : Bool, (b == b) = true := fun b => by cases b <;> rfl
      cases hq : decide (x = 0) with
      | true =>
        rw [hq] at hxd R7
        clear hq
        have e0 := HU5.out.s.box.cell 0
        simp at e0
        have d0 := HS5.out.load
        have CALL := Lib.hid ((HU5.out.isD hc1).rwrap HSM.out 7 (lo : Int) 255)
        go_wp2_with fail
        refine CALL.out.mono ?_; intro e y6 hp; obtain ⟨s, rfl, ho, hb⟩ := hp
        have HI := Lib.hid ho.isD
        have HS6 := Lib.hid (HS5.out.later hb)
        have HU6 := Lib.hid (HU5.out.later hb)
        clear hb ho HS5 HU5 CALL e0 d0
        go_wp2_with fail
        refine (R7.out _ _ HI.out HU6.out.t).mono ?_; rintro e y7 ⟨rfl, hb⟩
        have HS7 := Lib.hid (HS6.out.later hb)
        have HU7 := Lib.hid (HU6.out.later hb)
        clear hb HS6 HU6 HI R7
        have e0 := HU7.out.s.box.cell 0
        simp at e0
        have d0 := HS7.out.load
        have CALL := Lib.hid ((HU7.out.isD hc1).rwrap HSM.out 8 0 0)
        go_wp2_with fail
        refine CALL.out.mono ?_; intro e y8 hp; obtain ⟨s, rfl, ho, hb⟩ := hp
        have HI := Lib.hid ho.isD
        have HS8 := Lib.hid (HS7.out.later hb)
        have HU8 := Lib.hid (HU7.out.later hb)
        clear hb ho HS7 HU7 CALL e0 d0
        go_wp2_with fail
        refine (R8.out _ _ HI.out HU8.out.t).mono ?_; rintro e y9 ⟨rfl, hb⟩
        have HS9 := Lib.hid (HS8.out.later hb)
        have HU9 := Lib.hid (HU8.out.later hb)
        clear hb HS8 HU8 HI R8
        have d0 := HS9.out.load
        have CALL := Lib.hid (HS9.out.isD.rwrap MS.out 6 0 0)
        go_wp2_with fail
        refine CALL.out.mono ?_; intro e ya hp; obtain ⟨s, rfl, ho, hb⟩ := hp
        have HI := Lib.hid ho.isD
        have HUa := Lib.hid (HU9.out.later hb)
        clear hb ho HS9 HU9 CALL d0
        go_wp2_with fail
        refine (R9.out _ _ HI.out HUa.out.t).mono ?_; rintro e yb ⟨rfl, hb⟩
        have HUb := Lib.hid (HUa.out.later hb)
        clear hb HUa HI R9
        go_wp2
        go_ret
        exact ⟨rfl, HUb.out.s.bel⟩
      | false =>
        rw [hq] at hxd R7
        clear hq
        have e0 := HU5.out.s.box.cell 0
        simp at e0
        have d0 := HS5.out.load
        have CALL := Lib.hid ((HU5.out.isD hc1).rwrap HSM.out 7 (lo : Int) 255)
        go_wp2_with fail
        refine CALL.out.mono ?_; intro e y6 hp; obtain ⟨s, rfl, ho, hb⟩ := hp
        have HI := Lib.hid ho.isD
        have HS6 := Lib.hid (HS5.out.later hb)
        have HU6 := Lib.hid (HU5.out.later hb)
        clear hb ho HS5 HU5 CALL e0 d0
        go_wp2_with fail
        refine (R7.out _ _ HI.out HU6.out.t).mono ?_; rintro e y7 ⟨rfl, hb⟩
        have HS7 := Lib.hid (HS6.out.later hb)
        have HU7 := Lib.hid (HU6.out.later hb)
        clear hb HS6 HU6 HI R7
        have e0 := HU7.out.s.box.cell 0
        simp at e0
        have d0 := HS7.out.load
        have CALL := Lib.hid ((HU7.out.isD hc1).rwrap HSM.out 8 0 0)
        go_wp2_with fail
        refine CALL.out.mono ?_; intro e y8 hp; obtain ⟨s, rfl, ho, hb⟩ := hp
        have HI := Lib.hid ho.isD
        have HS8 := Lib.hid (HS7.out.later hb)
        have HU8 := Lib.hid (HU7.out.later hb)
        clear hb ho HS7 HU7 CALL e0 d0
        go_wp2_with fail
        refine (R8.out _ _ HI.out HU8.out.t).mono ?_; rintro e y9 ⟨rfl, hb⟩
        have HS9 := Lib.hid (HS8.out.later hb)
        have HU9 := Lib.hid (HU8.out.later hb)
        clear hb HS8 HU8 HI R8
        have d0 := HS9.out.load
        have CALL := Lib.hid (HS9.out.isD.rwrap MS.out 6 0 0)
        go_wp2_with fail
        refine CALL.out.mono ?_; intro e ya hp; obtain ⟨s, rfl, ho, hb⟩ := hp
        have HI := Lib.hid ho.isD
        have HUa := Lib.hid (HU9.out.later hb)
        clear hb ho HS9 HU9 CALL d0
        go_wp2_with fail
        refine (R9.out _ _ HI.out HUa.out.t).mono ?_; rintro e yb ⟨rfl, hb⟩
        have HUb := Lib.hid (HUa.out.later hb)
        clear hb HUa HI R9
        go_wp2
        go_ret
        exact ⟨rfl, HUb.out.s.bel⟩
end Go.Proofs.YtpbadglfegcdjaaDoor
