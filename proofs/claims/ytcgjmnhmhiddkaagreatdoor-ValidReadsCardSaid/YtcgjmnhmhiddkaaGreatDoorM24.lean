/- The document's parser: a row: walked. -/
import Derived.Test.YtcgjmnhmhiddkaaGreatDoorM23
namespace Go.Proofs.YtcgjmnhmhiddkaaGreatDoor
open Go Go.RowKit
set_option linter.unusedVariables false
set_option linter.unusedSimpArgs false
set_option maxRecDepth 100000
theorem dv_sd {l : List Tk} (hk : TkOk l) (hM : ∀ p, (tkAt l p).text.length ≤ 281474976710656) (hl : l.length ≤ 1000) {m : DM} (hm : m ≠ .inside) {a b : Nat} {D : List Nd} {A : List Int} (h : Dv l m a b D A) (hb : b ≤ l.length) : Sd D ∧ 0 < A.length ∧ A.length ≤ 4096 := by
  obtain ⟨h1, _, h2⟩ := dv_len h
  obtain ⟨h3, h4⟩ := h2 hm
  have hf := dv_form hk h
  have := hf.1
  exact ⟨⟨hf, by omega, dv_txt hM h⟩, by omega, by omega⟩
theorem Rst.stop {l : List Tk} {c : Nat} {D : List Nd} {A : List Int} {x : Nat} {X : List Nd} {Y : List Int} (h : Rst l c D A x X Y) (h6 : (tkAt l c).kind ≠ 6) (h7 : (tkAt l c).kind ≠ 7) : (tkAt l x).kind ≠ 6 ∧ (tkAt l x).kind ≠ 7 := by
  cases h with
  | done => exact ⟨h6, h7⟩
  | more hb p r => have := beg_cases.1 hb; omega
structure RwPS (w0 : World) (A : Option Addr) (l : List Tk) (br b8 : Nat) (nv av : Value) (D1 : List Nd) (Q1 : List Int) (w : World) : Prop where
  o : OrS w0 A l br w
  box : Blk w b8 #[nv, av] 83
  ne : b8 ≠ br
  low : w0.heap.size ≤ b8
  nd : OwnN w w0.heap.size nv D1
  at_ : OwnI w w0.heap.size av Q1
theorem RwPS.later {w0 w w' : World} {A : Option Addr} {l : List Tk} {br b8 : Nat} {nv av : Value} {D1 : List Nd} {Q1 : List Int} (h : RwPS w0 A l br b8 nv av D1 Q1 w) (hb : Below w.heap.size w w') : RwPS w0 A l br b8 nv av D1 Q1 w' := ⟨h.o.later hb, h.box.later hb, h.ne, h.low, h.nd.later hb, h.at_.later hb⟩
def RwPL (w0 : World) (A : Option Addr) (l : List Tk) (br b8 a e : Nat) (D : List Nd) (Q : List Int) (x : Value) (w : World) : Prop := ∃ (i : Nat) (D1 : List Nd) (Q1 : List Int) (nv av : Value), a ≤ i ∧ i ≤ e ∧ x = .int .i64 (i : Int) ∧ Rst l e D Q i D1 Q1 ∧ Dv l .row a i D1 Q1 ∧ RwPS w0 A l br b8 nv av D1 Q1 w
set_option maxHeartbeats 64000000 in
theorem row_ok (l : List Tk) (A : Option Addr) (c a e : Nat) {D : List Nd} {Q : List Int} (hd : Dv l .row a e D Q) (h6 : (tkAt l e).kind ≠ 6) (h7 : (tkAt l e).kind ≠ 7) (hel : e < l.length) (hl : l.length ≤ 1000) (hk : TkOk l) (hM : ∀ p, (tkAt l p).text.length ≤ 281474976710656)
    (hpo : ∀ b e2 E B, Dv l .post b e2 E B → a ≤ b → e2 ≤ e → PostOk l A c b e2 E B) : RowOk l A c a e D Q := by
  intro w hrow
  obtain ⟨i0, E0, B0, hp0, hr0⟩ := dv_row hd rfl
  have hi0 := hr0.le
  have hai := (dv_len hp0).2.2 (by intro h; cases h)
  have HBH : Hid (∀ (w0 : World) (br b e2 : Nat) (E : List Nd) (B : List Int), Dv l .post b e2 E B → a ≤ b → e2 ≤ e → ((tkAt l e2).kind ≠ 6 ∧ (tkAt l e2).kind ≠ 7) → ∀ w', OrS w0 A l br w' → Calls Tryz.prog 92 #[.slice A l.length c, .int .i64 (b : Int)] w' (Ans w' (.int .i64 (e2 : Int)))) := fun w0 br b e2 E B h1 h2 h3 h4 w' h => rbehind5_any l A c b e2 h1 h4.1 h4.2 (by omega) (by omega) w' h.tk.row
  have HPO : Hid (∀ (w0 : World) (br b e2 : Nat) (E : List Nd) (B : List Int), Dv l .post b e2 E B → a ≤ b → e2 ≤ e → ∀ w', OrS w0 A l br w' → Calls Tryz.prog 93 #[.slice A l.length c, .int .i64 (b : Int), .int .i64 (e2 : Int)] w' (PtP w' E B)) := fun w0 br b e2 E B h1 h2 h3 w' h => hpo b e2 E B h1 h2 h3 w' h.tk.row
  have HSD : Hid (∀ (m : DM) (b e2 : Nat) (E : List Nd) (B : List Int), m ≠ .inside → Dv l m b e2 E B → e2 ≤ e → Sd E ∧ 0 < B.length ∧ B.length ≤ 4096) := fun m b e2 E B hm h he => dv_sd hk hM hl hm h (by omega)
  have HST : Hid (∀ x X Y, Rst l e D Q x X Y → (tkAt l x).kind ≠ 6 ∧ (tkAt l x).kind ≠ 7) := fun x X Y h => h.stop h6 h7
  have HRT : Hid (∀ w', Below w.heap.size w w' → TkRow w' A l) := fun w' h => hrow.later h
  have HP0 := Lib.hid hp0
  have HR0 := Lib.hid hr0
  have HLZ : Hid (e < l.length ∧ l.length ≤ 1000) := ⟨hel, hl⟩
  have hez : (e : Int) ≤ 1000 := by omega
  have hi0z : (i0 : Int) ≤ (e : Int) := by omega
  have HAI : Hid (a ≤ i0 ∧ i0 ≤ e) := ⟨by omega, hi0⟩
  have hb1 := (Below.refl w.heap.size w).alloc (Nat.le_refl _) (.cells #[.slice none 0 0, .slice none 0 0] 83)
  have HS0 : Hid (OrS w A l w.heap.size (w.alloc (.cells #[.slice none 0 0, .slice none 0 0] 83))) := ⟨⟨hb1, hrow.later hb1⟩, Blk.new _ _ _⟩
  clear hd h6 h7 hel hl hk hM hpo hp0 hr0 hi0 hai hb1 hrow
  go_enter Tryz.func61, Tryz.ntmps61
  go_upto_region 1 with (fail)
  generalize w.alloc (.cells #[.slice none 0 0, .slice none 0 0] 83) = w1 at *
  obtain ⟨br, hbr⟩ : ∃ br, br = w.heap.size := ⟨_, rfl⟩
  rw [← hbr] at HS0 ⊢
  have HLB : Hid (w.heap.size ≤ br) := by rw [hbr]; exact Nat.le_refl _
  clear hbr
  go_wp2_with fail
  refine (HBH.out w br a i0 E0 B0 HP0.out (Nat.le_refl _) HAI.out.2 (HST.out _ _ _ HR0.out) _ HS0.out).mono ?_; rintro en w2 ⟨rfl, hb⟩
  have HS2 := Lib.hid (HS0.out.later hb)
  clear hb HS0
  go_wp2_with fail
  refine (HPO.out w br a i0 E0 B0 HP0.out (Nat.le_refl _) HAI.out.2 _ HS2.out).mono ?_; rintro en w4 ⟨nv, av, rfl, ho, hi, hb⟩
  obtain ⟨a5, c5, m5, rfl⟩ := row_num hi
  obtain ⟨a6, c6, m6, rfl⟩ := row_nd ho
  have hlo := HS2.out.tk.bel.size
  have hb2 := (Below.refl w4.heap.size w4).alloc (Nat.le_refl _) (.cells #[.slice a6 m6 c6, .slice a5 m5 c5] 83)
  have HR : Hid (RwPS w A l br w4.heap.size (.slice a6 m6 c6) (.slice a5 m5 c5) E0 B0 _) := ⟨(HS2.out.later hb).later hb2, Blk.new w4 _ _, Nat.ne_of_gt (Nat.lt_of_lt_of_le (HS2.out.res.lt) hb.size), Nat.le_trans hlo hb.size, (ho.weaken hlo).later hb2, (own_low hi hlo).later hb2⟩
  clear hb hb2 ho hi hlo HS2
  go_upto_region 3 with (fail)
  generalize w4.alloc (.cells #[.slice a6 m6 c6, .slice a5 m5 c5] 83) = w5 at *
  generalize w4.heap.size = b8 at *
  go_wp2
  have HL : Hid (RwPL w A l br b8 a e D Q (.int .i64 (i0 : Int)) w5) := ⟨i0, E0, B0, _, _, HAI.out.1, HAI.out.2, rfl, HR0.out, .row0 HP0.out, HR.out⟩
  clear HR HR0 HP0 HAI hi0z
  go_loopw [7] (RwPL w A l br b8 a e D Q) (fun x _ => e - (intOf x).toNat)
  case atStart => exact HL.out
  case round =>
    obtain ⟨i, D1, Q1, nv, av, hai, hie, rfl, hrst, hdv, hs⟩ := hrel
    have HS := Lib.hid hs
    have HDV := Lib.hid hdv
    clear hs hdv HL
    cases hrst with
    | done =>
      have hkz : ¬ (e : Int) < (e : Int) := by omega
      obtain ⟨a5, c5, m5, rfl⟩ := row_num HS.out.at_
      obtain ⟨a6, c6, m6, rfl⟩ := row_nd HS.out.nd
      have e0 := HS.out.box.cell 0
      have e1 := HS.out.box.cell 1
      have z0 := HS.out.o.res.cell 0
      have z1 := HS.out.o.res.cell 1
      have f0 := HS.out.o.res.frozen 0
      have f1 := HS.out.o.res.frozen 1
      simp at e0 e1 z0 z1
      go_wp2
      exact bodyPost_ret (v := .agg #[.slice a6 m6 c6, .slice a5 m5 c5]) (by simp [results, Tryz.results61, go_sem, z0, z1, f0, f1]) rfl ⟨_, _, rfl, part_set HS.out.nd HS.out.o.res _ _, part_seti HS.out.at_ HS.out.o.res _ _, (HS.out.o.tk.bel.setCell (p := ⟨br, 0, none⟩) HLB.out _).setCell (p := ⟨br, 1, none⟩) HLB.out _⟩
    | @more _ i2 _ D2 _ Q2 hbg hp2 hr2 =>
      have hi2 := hr2.le
      have hlt2 := (dv_len hp2).2.2 (by intro h; cases h)
      have HP2D := Lib.hid hp2
      have HR2 := Lib.hid hr2
      have HBG := Lib.hid hbg
      have HI2 : Hid (i < i2 ∧ i2 ≤ e ∧ a ≤ i ∧ i ≤ e) := ⟨hlt2.1, hi2, hai, hie⟩
      have hkz : (i : Int) < (e : Int) := by omega
      have SD1 := Lib.hid (HSD.out .row a i D1 Q1 (by intro h; cases h) HDV.out hie).1
      have SD2 := Lib.hid (HSD.out .post i i2 D2 Q2 (by intro h; cases h) hp2 hi2).1
      have hq1 := (HSD.out .row a i D1 Q1 (by intro h; cases h) HDV.out hie).2
      have hq2 := (HSD.out .post i i2 D2 Q2 (by intro h; cases h) hp2 hi2).2
      obtain ⟨p, hp⟩ : ∃ p, Q1.length = p := ⟨_, rfl⟩
      obtain ⟨q, hq⟩ : ∃ q, Q2.length = q := ⟨_, rfl⟩
      have HP1 := Lib.hid hp
      have HP2 := Lib.hid hq
      have HPQ : Hid (0 < p ∧ 0 < q ∧ p + q ≤ 100000) := ⟨by omega, by omega, by omega⟩
      have hi2z : (i2 : Int) ≤ (e : Int) := by omega
      clear hp2 hr2 hbg hi2 hlt2 hp hq hq1 hq2
      go_wp2_with fail
      refine (HBH.out w br i i2 D2 Q2 HP2D.out HI2.out.2.2.1 HI2.out.2.1 (HST.out _ _ _ HR2.out) _ HS.out.o).mono ?_; rintro en w2 ⟨rfl, hb⟩
      have HS2 := Lib.hid (HS.out.later hb)
      clear hb HS
      go_wp2_with fail
      refine (HPO.out w br i i2 D2 Q2 HP2D.out HI2.out.2.2.1 HI2.out.2.1 _ HS2.out.o).mono ?_; rintro en w4 ⟨nv2, av2, rfl, ho, hi, hb⟩
      obtain ⟨⟨am, km, hkm, hnv, hrn⟩, b2, o2, c2, rfl, hri⟩ := ptr_of ho hi (by have := HPQ.out.2.1; have := HP2.out; omega)
      have hnv : nv2 = .slice am D2.length km := by injection hnv with hnv; simpa using hnv
      subst hnv
      obtain ⟨m, hm⟩ : ∃ m, D2.length = m := ⟨_, rfl⟩
      rw [hm, HP2.out]
      have hb2 := (Below.refl w4.heap.size w4).alloc (Nat.le_refl _) (.cells #[.slice am m km, .slice (some ⟨b2, o2, none⟩) q c2] 83)
      have HS3 := Lib.hid (HS2.out.later (hb.trans (hb2.mono hb.size)))
      have HB2X := Lib.hid (Blk.new w4 #[.slice am m km, .slice (some ⟨b2, o2, none⟩) q c2] 83)
      have HN2 : Hid (IsD D2 (.agg #[.slice am m km]) _) := ⟨am, km, hkm, by rw [hm], hrn.later hb2⟩
      have HQ2 := Lib.hid (hri.later hb2)
      clear hb hb2 ho hi hkm hrn hri hm HS2
      go_upto_region 6 with (fail)
      generalize w4.alloc (.cells #[.slice am m km, .slice (some ⟨b2, o2, none⟩) q c2] 83) = w3 at *
      generalize w4.heap.size = x2 at *
      obtain ⟨⟨an, kn, hkn, hnv, hrn⟩, b1, o1, c1, hav, hri⟩ := ptr_of HS3.out.nd HS3.out.at_ (by have := HPQ.out.1; have := HP1.out; omega)
      have hnv : nv = .slice an D1.length kn := by injection hnv with hnv; simpa using hnv
      subst hnv
      subst hav
      obtain ⟨n, hn⟩ : ∃ n, D1.length = n := ⟨_, rfl⟩
      rw [hn, HP1.out] at HS3
      have HB1X := Lib.hid HS3.out.box
      have HN1 : Hid (IsD D1 (.agg #[.slice an n kn]) w3) := ⟨an, kn, hkn, by rw [hn], hrn⟩
      have HQ1 := Lib.hid hri
      have HB := Lib.hid HS3.out.o.tk.bel
      have HOS := Lib.hid HS3.out.o
      have HNE := Lib.hid HS3.out.ne
      have HLW := Lib.hid HS3.out.low
      clear hkn hrn hri hn HS3
      obtain ⟨L, hL⟩ : ∃ L, L = Q1 ++ Q2 ++ [-1] := ⟨_, rfl⟩
      have HLQ : Hid ((L.drop 0).take p = Q1 ∧ (L.drop p).take q = Q2 ∧ (L.drop (p + q)).take 1 = [-1] ∧ L.length = p + q + 1 ∧ L.take (p + q + 1) = L) := by
        have e1 := HP1.out
        have e2 := HP2.out
        subst hL
        refine ⟨by rw [← e1]; simp, by rw [← e1, ← e2]; simp, by rw [← e1, ← e2, ← List.length_append]; simp, by rw [← e1, ← e2]; simp; omega, ?_⟩
        rw [← e1, ← e2]; exact List.take_of_length_le (by simp; omega)
      have HLE := Lib.hid hL
      clear hL
      obtain ⟨BASE, hBASE⟩ : ∃ B, B = w3.heap.size := ⟨_, rfl⟩
      have HBASE := Lib.hid hBASE
      have HR : Hid (∀ w w' : World, Below w.heap.size w w' → IR BASE L w w') := fun w w' h => IR.of w w' h
      have HS3 : Hid (IrS w3 w3) := Below.refl _ _
      have HLO : Hid (∀ w', IrS w3 w' → BASE ≤ w'.heap.size) := fun w' h => by rw [hBASE]; exact h.size
      have HPR : Hid (∀ w', IrS w3 w' → Calls Tryz.prog 18 #[.int .i64 4, .agg #[.slice an n kn], .agg #[.slice am m km]] w' (DPost w' (pairL 4 D1 D2))) := fun w' h => (HN1.out.later _ _ _ _ h).rpair' (HN2.out.later _ _ _ _ h) SD1.out SD2.out 4
      clear hBASE
      refine G.wp_region_stable_last (R := (IR BASE L)) HR.out (S := (IrS w3)) (hSt := fun _ _ h hr => h.grow (HBASE.out ▸ hr)) (plan := [[(8, none)], [(28, some 0)], [(10, none)], [(30, some 2)], [(29, some 1), (31, some 3)], [], [(8, none)], [(34, some 6)], [(33, some 5), (35, some 7)], [(10, none)], [(37, some 9)], [(36, some 8), (38, some 10)], [], [(39, some 11), (40, some 12)], [(32, some 4), (41, some 13)]]) rfl (by kernel_rfl) (by kernel_rfl) (by kernel_rfl) (by kernel_rfl) ?hS ?_
      rotate_left
      simp only [List.dropLast]
      iterate 4 first
        | (refine G.chain_skip (by rfl) (by rfl) ?_)
        | (apply G.chain_want (by rfl)
           · intro act wx hS hr
             simp at hr
             have e0 := (HB1X.out.later hS).cell 0
             have e1 := (HB1X.out.later hS).cell 1
             have e2 := (HB2X.out.later hS).cell 0
             have e3 := (HB2X.out.later hS).cell 1
             simp at e0 e1 e2 e3
             go_simp
             (try go_ints)
             first
               | exact G.Done.same HR.out
          )
      (refine G.chain_rel (VwN BASE (pairL 4 D1 D2)) (VwN.grow _) (by rfl) ?_ ?_
       · intro act wx hS hr
         simp at hr
         have e0 := (HB1X.out.later hS).cell 0
         have e1 := (HB1X.out.later hS).cell 1
         have e2 := (HB2X.out.later hS).cell 0
         have e3 := (HB2X.out.later hS).cell 1
         simp at e0 e1 e2 e3
         all_goals go_simp
         ((with_reducible refine (HPR.out _ hS).mono ?_); intro e w' hp; obtain ⟨v, rfl, ho, hb⟩ := hp; exact G.Done.rel (HR.out _ _ hb) ⟨Nat.le_trans (HLO.out _ hS) hb.size, v, rfl, ho.weaken (HLO.out _ hS)⟩)
      )
      (refine G.chain_rel (VwE BASE) (VwE.grow) (by rfl) ?_ ?_
       · intro act wx hS hr
         simp at hr
         have e0 := (HB1X.out.later hS).cell 0
         have e1 := (HB1X.out.later hS).cell 1
         have e2 := (HB2X.out.later hS).cell 0
         have e3 := (HB2X.out.later hS).cell 1
         simp at e0 e1 e2 e3
         all_goals go_simp
         exact G.Done.rel (HR.out _ _ ((Below.refl _ _).alloc (Nat.le_refl _) _)) ⟨Nat.le_trans (HLO.out _ hS) (by simp), _, rfl, HLO.out _ hS, Blk.new _ _ _⟩
      )
      iterate 2 first
        | (refine G.chain_skip (by rfl) (by rfl) ?_)
        | (apply G.chain_want (by rfl)
           · intro act wx hS hr
             simp at hr
             have e0 := (HB1X.out.later hS).cell 0
             have e1 := (HB1X.out.later hS).cell 1
             have e2 := (HB2X.out.later hS).cell 0
             have e3 := (HB2X.out.later hS).cell 1
             simp at e0 e1 e2 e3
             go_simp
             (try go_ints)
             first
               | exact G.Done.same HR.out
          )
      (refine G.chain_rel (VwL BASE L p) (VwL.grow p) (by rfl) ?_ ?_
       · intro act wx hS hr
         simp at hr
         have e0 := (HB1X.out.later hS).cell 0
         have e1 := (HB1X.out.later hS).cell 1
         have e2 := (HB2X.out.later hS).cell 0
         have e3 := (HB2X.out.later hS).cell 1
         simp at e0 e1 e2 e3
         obtain ⟨⟨v, hr2, hlo, g0, rfl, hg0, hk⟩, hr3⟩ := hr
         refine wp_append_ints (.tmp 33) (.tmp 35) rfl BASE (.slice (some ⟨g0, 0, none⟩) 0 0) L 0 p (by have := HLQ.out.2.2.2.1; omega) HPQ.out.1 (.inr ⟨g0, rfl⟩) (by simp [Act.eval, hr2]) (OwnI.empty hk hg0 L) b1 o1 c1 (by simp [Act.eval, hr3]) (by rw [HLQ.out.1]; exact HQ1.out.later hS) (by have := HLQ.out.2.2.2.1; have := HPQ.out.2.2; omega) (HLO.out _ hS) ?_
         intro v' w' q1 q2
         rw [Nat.zero_add] at q1
         exact G.Done.rel q2 ⟨Nat.le_trans (HLO.out _ hS) (q2.out (HLO.out _ hS)).1.size, q1⟩
         all_goals go_simp
      )
      iterate 2 first
        | (refine G.chain_skip (by rfl) (by rfl) ?_)
        | (apply G.chain_want (by rfl)
           · intro act wx hS hr
             simp at hr
             have e0 := (HB1X.out.later hS).cell 0
             have e1 := (HB1X.out.later hS).cell 1
             have e2 := (HB2X.out.later hS).cell 0
             have e3 := (HB2X.out.later hS).cell 1
             simp at e0 e1 e2 e3
             go_simp
             (try go_ints)
             first
               | exact G.Done.same HR.out
          )
      (refine G.chain_rel (VwL BASE L (p + q)) (VwL.grow (p + q)) (by rfl) ?_ ?_
       · intro act wx hS hr
         simp at hr
         have e0 := (HB1X.out.later hS).cell 0
         have e1 := (HB1X.out.later hS).cell 1
         have e2 := (HB2X.out.later hS).cell 0
         have e3 := (HB2X.out.later hS).cell 1
         simp at e0 e1 e2 e3
         obtain ⟨⟨v, hr2, hlo, ho⟩, hr3⟩ := hr
         refine wp_append_ints (.tmp 36) (.tmp 38) rfl BASE v L p q (by have := HLQ.out.2.2.2.1; omega) HPQ.out.2.1 (.inl (by have := HPQ.out; omega)) (by simp [Act.eval, hr2]) ho b2 o2 c2 (by simp [Act.eval, hr3]) (by rw [HLQ.out.2.1]; exact HQ2.out.later hS) (by have := HLQ.out.2.2.2.1; have := HPQ.out.2.2; omega) (HLO.out _ hS) ?_
         intro v' w' q1 q2
         exact G.Done.rel q2 ⟨Nat.le_trans (HLO.out _ hS) (q2.out (HLO.out _ hS)).1.size, q1⟩
         all_goals go_simp
      )
      (refine G.chain_rel (VwO BASE (-1)) (VwO.grow (-1)) (by rfl) ?_ ?_
       · intro act wx hS hr
         simp at hr
         have e0 := (HB1X.out.later hS).cell 0
         have e1 := (HB1X.out.later hS).cell 1
         have e2 := (HB2X.out.later hS).cell 0
         have e3 := (HB2X.out.later hS).cell 1
         simp at e0 e1 e2 e3
         all_goals go_simp
         exact G.Done.rel (HR.out _ _ ((Below.refl _ _).alloc (Nat.le_refl _) _)) ⟨Nat.le_trans (HLO.out _ hS) (by simp), _, rfl, Blk.new _ _ _⟩
      )
      (refine G.chain_rel (VwL BASE L (p + q + 1)) (VwL.grow (p + q + 1)) (by rfl) ?_ ?_
       · intro act wx hS hr
         simp at hr
         have e0 := (HB1X.out.later hS).cell 0
         have e1 := (HB1X.out.later hS).cell 1
         have e2 := (HB2X.out.later hS).cell 0
         have e3 := (HB2X.out.later hS).cell 1
         simp at e0 e1 e2 e3
         obtain ⟨⟨v, hr2, hlo, ho⟩, v5, hr5, hlo5, g5, rfl, hk5⟩ := hr
         refine wp_append_ints (.tmp 39) (.tmp 40) rfl BASE v L (p + q) 1 (by have := HLQ.out.2.2.2.1; omega) (by omega) (.inl (by have := HPQ.out; omega)) (by simp [Act.eval, hr2]) ho g5 0 1 (by simp [Act.eval, hr5]) (by rw [HLQ.out.2.2.1]; exact one_row hk5) (by have := HLQ.out.2.2.2.1; have := HPQ.out.2.2; omega) (HLO.out _ hS) ?_
         intro v' w' q1 q2
         exact G.Done.rel q2 ⟨Nat.le_trans (HLO.out _ hS) (q2.out (HLO.out _ hS)).1.size, q1⟩
         all_goals go_simp
      )
      (refine G.chain_rel (VwP BASE (pairL 4 D1 D2) L (p + q + 1)) (VwP.grow _ (p + q + 1)) (by rfl) ?_ ?_
       · intro act wx hS hr
         simp at hr
         have e0 := (HB1X.out.later hS).cell 0
         have e1 := (HB1X.out.later hS).cell 1
         have e2 := (HB2X.out.later hS).cell 0
         have e3 := (HB2X.out.later hS).cell 1
         simp at e0 e1 e2 e3
         obtain ⟨⟨v, hr2, hlo, s, rfl, hs⟩, v5, hr5, hlo5, ho5⟩ := hr
         obtain ⟨a5, c5, m5, rfl⟩ := row_num ho5
         obtain ⟨a6, c6, m6, rfl⟩ := row_nd hs
         all_goals go_simp
         exact G.Done.rel (HR.out _ _ (Below.refl _ _)) ⟨hlo, _, _, rfl, hs, ho5⟩
      )
      show ∀ w', _ → _
      intro wz hz
      simp [Act.put]
      case hS => exact HS3.out
      intro y1 _ y2 _ y3 _ y4 _ y5 _ y6 _ y7 hy
      obtain ⟨hlo, s, u, rfl, hs, hu⟩ := hy
      obtain ⟨a5, c5, m5, rfl⟩ := row_num hu
      obtain ⟨a6, c6, m6, rfl⟩ := row_nd hs
      have HNZ : Hid (OwnN wz w.heap.size (.slice a6 m6 c6) (pairL 4 D1 D2)) := hs.weaken (by rw [HBASE.out]; exact HB.out.size)
      have HUZ : Hid (OwnI wz w.heap.size (.slice a5 m5 c5) (Q1 ++ Q2 ++ [-1])) := by
        rw [HLQ.out.2.2.2.2, HLE.out] at hu
        exact own_low hu (by rw [HBASE.out]; exact HB.out.size)
      have HBZ := Lib.hid (HB.out.trans (Below.mono hz HB.out.size))
      have HB8 := Lib.hid (HB1X.out.later hz)
      have HOZ := Lib.hid (HOS.out.later hz)
      have z0 := HB8.out.cell 0
      have z1 := HB8.out.cell 1
      have f0 := HB8.out.frozen 0
      have f1 := HB8.out.frozen 1
      simp at z0 z1
      clear hz hlo hs hu
      have HNX : Hid (RwPS w A l br b8 (.slice a6 m6 c6) (.slice a5 m5 c5) (pairL 4 D1 D2) (Q1 ++ Q2 ++ [-1]) ((wz.setCell ⟨b8, 0, none⟩ (.slice a6 m6 c6)).setCell ⟨b8, 1, none⟩ (.slice a5 m5 c5))) := by
        have hbl := (HBZ.out.setCell (p := ⟨b8, 0, none⟩) HLW.out (.slice a6 m6 c6)).setCell (p := ⟨b8, 1, none⟩) HLW.out (.slice a5 m5 c5)
        refine ⟨⟨⟨hbl, HRT.out _ hbl⟩, (HOZ.out.res.setCell_ne (a := ⟨b8, 0, none⟩) HNE.out _).setCell_ne (a := ⟨b8, 1, none⟩) HNE.out _⟩, ?_, HNE.out, HLW.out, part_set HNZ.out HB8.out _ _, part_seti HUZ.out HB8.out _ _⟩
        have := (HB8.out.setCell 0 (.slice a6 m6 c6)).setCell 1 (.slice a5 m5 c5)
        simpa using this
      go_wp2
      go_roundw
      case rel => exact ⟨i2, _, _, _, _, by have := HI2.out; omega, HI2.out.2.1, rfl, HR2.out, .row HDV.out HBG.out HP2D.out, HNX.out⟩
      case measure => have := HI2.out; simp [intOf]; omega
def PvR (E : List Nd) (B : List Int) (v : Value) (w : World) : Prop := ∃ nv av, v = .agg #[nv, av] ∧ PtR w E B nv av
theorem PvR.later (E : List Nd) (B : List Int) (v : Value) (w w' : World) (h : PvR E B v w) (hb : Below w.heap.size w w') : PvR E B v w' := by
  obtain ⟨nv, av, h1, h2⟩ := h
  exact ⟨nv, av, h1, h2.later hb⟩
def PvO (base : Nat) (E : List Nd) (B : List Int) (v : Value) (w : World) : Prop := ∃ nv av, v = .agg #[nv, av] ∧ OwnN w base nv E ∧ OwnI w base av B
theorem PvO.later {base : Nat} (E : List Nd) (B : List Int) (v : Value) (w w' : World) (h : PvO base E B v w) (hb : Below w.heap.size w w') : PvO base E B v w' := by
  obtain ⟨nv, av, h1, h2, h3⟩ := h
  exact ⟨nv, av, h1, h2.later hb, h3.later hb⟩
structure PoS (w0 : World) (A : Option Addr) (l : List Tk) (br bx : Nat) (x : Tk) (w : World) : Prop where
  o : OrS w0 A l br w
  box : Blk w bx #[.int .i64 x.kind, .int .i64 x.at_, .int .u64 (wd x.cls 0), .int .u64 (wd x.cls 1), .int .u64 (wd x.cls 2), .int .u64 (wd x.cls 3), .string (bs x.text), .int .i64 x.lo, .int .i64 x.hi] 76
theorem PoS.later {w0 w w' : World} {A : Option Addr} {l : List Tk} {br bx : Nat} {x : Tk} (h : PoS w0 A l br bx x w) (hb : Below w.heap.size w w') : PoS w0 A l br bx x w' := ⟨h.o.later hb, h.box.later hb⟩
set_option maxHeartbeats 64000000 in
theorem post_star (l : List Tk) (A : Option Addr) (c a e : Nat) {E : List Nd} {B : List Int} (hae : a < e) (hel : e < l.length) (hl : l.length ≤ 1000) (h6 : (tkAt l e).kind = 6) (sd : Sd E) (hq : 0 < B.length ∧ B.length ≤ 4096) (hp : PostOk l A c a e E B) : PostOk l A c a (e + 1) (wrapL 6 0 0 E) (B ++ [(tkAt l e).at_]) := by
  intro w hrow
  have HPO : Hid (∀ (w0 : World) (br : Nat) (w' : World), OrS w0 A l br w' → Calls Tryz.prog 93 #[.slice A l.length c, .int .i64 (a : Int), .int .i64 (e : Int)] w' (PtP w' E B)) := fun w0 br w' h => hp w' h.tk.row
  have SD := Lib.hid sd
  have HQ := Lib.hid hq
  have haz : (a : Int) < (e : Int) := by omega
  clear hp sd hq
  have hb1 := (Below.refl w.heap.size w).alloc (Nat.le_refl _) (.cells #[.slice none 0 0, .slice none 0 0] 83)
  have HS0 : Hid (OrS w A l w.heap.size (w.alloc (.cells #[.slice none 0 0, .slice none 0 0] 83))) := ⟨⟨hb1, hrow.later hb1⟩, Blk.new _ _ _⟩
  clear hrow hb1
  go_enter Tryz.func93, Tryz.ntmps93
  go_upto_region 1 with (fail)
  generalize w.alloc (.cells #[.slice none 0 0, .slice none 0 0] 83) = w1 at *
  obtain ⟨br, hbr⟩ : ∃ br, br = w.heap.size := ⟨_, rfl⟩
  rw [← hbr] at HS0 ⊢
  have HLB : Hid (w.heap.size ≤ br) := by rw [hbr]; exact Nat.le_refl _
  clear hbr
  obtain ⟨bb, oo, hA, -, -⟩ := HS0.out.tk.row e hel
  subst hA
  have g := HS0.out.tk.row.at (i := e) hel rfl
  obtain ⟨x, hx⟩ : ∃ x, tkAt l e = x := ⟨_, rfl⟩
  rw [hx] at g
  have HX := Lib.hid hx
  clear hx
  unfold At9K at g
  obtain ⟨g0, g1, g2, g3, g4, g5, g6, g7, g8⟩ := g
  have hb2 := (Below.refl w1.heap.size w1).alloc (Nat.le_refl _) (.cells #[.int .i64 x.kind, .int .i64 x.at_, .int .u64 (wd x.cls 0), .int .u64 (wd x.cls 1), .int .u64 (wd x.cls 2), .int .u64 (wd x.cls 3), .string (bs x.text), .int .i64 x.lo, .int .i64 x.hi] 76)
  have HS1 : Hid (PoS w (some ⟨bb, oo, none⟩) l br w1.heap.size x _) := ⟨HS0.out.later hb2, Blk.new w1 _ _⟩
  have helz : (e : Int) < (l.length : Int) := by omega
  clear hb2 HS0
  go_upto_region 2 with (fail)
  clear g0 g1 g2 g3 g4 g5 g6 g7 g8
  generalize w1.alloc (.cells #[.int .i64 x.kind, .int .i64 x.at_, .int .u64 (wd x.cls 0), .int .u64 (wd x.cls 1), .int .u64 (wd x.cls 2), .int .u64 (wd x.cls 3), .string (bs x.text), .int .i64 x.lo, .int .i64 x.hi] 76) = w3 at *
  generalize w1.heap.size = bx at *
  rw [HX.out] at h6 ⊢
  have HK := Lib.hid h6
  clear h6
  have ⟨e0, e1, e2, e3, e4, e5, e6, e7, e8⟩ := nine_cells HS1.out.box
  rw [HK.out] at e0
  go_upto_region 3 with (fail)
  clear e0 e1 e2 e3 e4 e5 e6 e7 e8
  refine wp_region_stable_last (S := (PoS w (some ⟨bb, oo, none⟩) l br bx x)) (hSt := fun _ _ h hb => h.later hb) (plan := [[(7, none)], [(23, some 0)], [(0, none)], [(1, none)], [(2, none)], [(27, some 4)], [(25, some 2), (26, some 3), (28, some 5)], [(24, some 1), (29, some 6)]]) rfl (by kernel_rfl) (by kernel_rfl) (by kernel_rfl) (by kernel_rfl) ?hS ?_
  rotate_left
  simp only [List.dropLast]
  iterate 6 first
    | (refine chain_skip (by rfl) (by rfl) ?_)
    | (apply chain_want (by rfl)
       · intro act wx hS hr
         simp at hr
         have ⟨e0, e1, e2, e3, e4, e5, e6, e7, e8⟩ := nine_cells hS.box
         go_simp
         (try go_ints)
         first
           | exact Done.same
      )
  (refine chain_rel (PvR E B) (PvR.later _ _) (by rfl) ?_ ?_
   · intro act wx hS hr
     simp at hr
     have ⟨e0, e1, e2, e3, e4, e5, e6, e7, e8⟩ := nine_cells hS.box
     all_goals go_simp
     ((with_reducible refine (HPO.out _ _ _ hS.o).mono ?_); intro e w' hp; obtain ⟨nv, av, rfl, ho, hi, hb⟩ := hp; obtain ⟨a5, c5, m5, rfl⟩ := row_num hi; obtain ⟨a6, c6, m6, rfl⟩ := row_nd ho; exact Done.rel hb ⟨_, _, rfl, ptr_of ho hi HQ.out.1⟩)
  )
  (refine chain_rel (PvO w.heap.size (wrapL 6 0 0 E) (B ++ [x.at_])) (PvO.later _ _) (by rfl) ?_ ?_
   · intro act wx hS hr
     simp at hr
     have ⟨e0, e1, e2, e3, e4, e5, e6, e7, e8⟩ := nine_cells hS.box
     all_goals go_simp
     (obtain ⟨hr3, v, hr2, nv, av, rfl, hpr⟩ := hr; simp only [hr2, Option.getD_some]; (refine (rwrap5_any 6 0 0 x.at_ SD.out HQ.out.1 (by have := HQ.out.2; omega) _ hpr).mono ?_); intro e w' hp; obtain ⟨nv', av', rfl, ho, hi, hb⟩ := hp; obtain ⟨a5, c5, m5, rfl⟩ := row_num hi; obtain ⟨a6, c6, m6, rfl⟩ := row_nd ho; exact Done.rel hb ⟨_, _, rfl, ho.weaken hS.o.tk.bel.size, own_low hi hS.o.tk.bel.size⟩)
  )
  show ∀ w', _ → _
  intro wz hz
  simp [Act.put]
  case hS => exact HS1.out
  intro y1 _ y2 hy
  have HOZ := Lib.hid hz.o
  clear hz HS1
  obtain ⟨nv', av', rfl, hno, hio⟩ := hy
  obtain ⟨a5, c5, m5, rfl⟩ := row_num hio
  obtain ⟨a6, c6, m6, rfl⟩ := row_nd hno
  have HNZ := Lib.hid hno
  have HUZ := Lib.hid hio
  have HRZ := Lib.hid HOZ.out.res
  have z0 := HRZ.out.cell 0
  have z1 := HRZ.out.cell 1
  have f0 := HRZ.out.frozen 0
  have f1 := HRZ.out.frozen 1
  simp at z0 z1
  clear hno hio
  go_wp2
  exact bodyPost_ret (v := .agg #[.slice a6 m6 c6, .slice a5 m5 c5]) (by simp [results, Tryz.results93, go_sem, z0, z1, f0, f1]) rfl (by (try rw [HX.out]); exact ⟨_, _, rfl, part_set HNZ.out HRZ.out _ _, part_seti HUZ.out HRZ.out _ _, (HOZ.out.tk.bel.setCell (p := ⟨br, 0, none⟩) HLB.out _).setCell (p := ⟨br, 1, none⟩) HLB.out _⟩)
set_option maxHeartbeats 64000000 in
theorem post_rep (l : List Tk) (A : Option Addr) (c a e : Nat) {E : List Nd} {B : List Int} (hae : a < e) (hel : e < l.length) (hl : l.length ≤ 1000) (h7 : (tkAt l e).kind = 7) (sd : Sd E) (hq : 0 < B.length ∧ B.length ≤ 4096) (hp : PostOk l A c a e E B) : PostOk l A c a (e + 1) (wrapL 7 (tkAt l e).lo (tkAt l e).hi E) (B ++ [(tkAt l e).at_]) := by
  intro w hrow
  have HPO : Hid (∀ (w0 : World) (br : Nat) (w' : World), OrS w0 A l br w' → Calls Tryz.prog 93 #[.slice A l.length c, .int .i64 (a : Int), .int .i64 (e : Int)] w' (PtP w' E B)) := fun w0 br w' h => hp w' h.tk.row
  have SD := Lib.hid sd
  have HQ := Lib.hid hq
  have haz : (a : Int) < (e : Int) := by omega
  clear hp sd hq
  have hb1 := (Below.refl w.heap.size w).alloc (Nat.le_refl _) (.cells #[.slice none 0 0, .slice none 0 0] 83)
  have HS0 : Hid (OrS w A l w.heap.size (w.alloc (.cells #[.slice none 0 0, .slice none 0 0] 83))) := ⟨⟨hb1, hrow.later hb1⟩, Blk.new _ _ _⟩
  clear hrow hb1
  go_enter Tryz.func93, Tryz.ntmps93
  go_upto_region 1 with (fail)
  generalize w.alloc (.cells #[.slice none 0 0, .slice none 0 0] 83) = w1 at *
  obtain ⟨br, hbr⟩ : ∃ br, br = w.heap.size := ⟨_, rfl⟩
  rw [← hbr] at HS0 ⊢
  have HLB : Hid (w.heap.size ≤ br) := by rw [hbr]; exact Nat.le_refl _
  clear hbr
  obtain ⟨bb, oo, hA, -, -⟩ := HS0.out.tk.row e hel
  subst hA
  have g := HS0.out.tk.row.at (i := e) hel rfl
  obtain ⟨x, hx⟩ : ∃ x, tkAt l e = x := ⟨_, rfl⟩
  rw [hx] at g
  have HX := Lib.hid hx
  clear hx
  unfold At9K at g
  obtain ⟨g0, g1, g2, g3, g4, g5, g6, g7, g8⟩ := g
  have hb2 := (Below.refl w1.heap.size w1).alloc (Nat.le_refl _) (.cells #[.int .i64 x.kind, .int .i64 x.at_, .int .u64 (wd x.cls 0), .int .u64 (wd x.cls 1), .int .u64 (wd x.cls 2), .int .u64 (wd x.cls 3), .string (bs x.text), .int .i64 x.lo, .int .i64 x.hi] 76)
  have HS1 : Hid (PoS w (some ⟨bb, oo, none⟩) l br w1.heap.size x _) := ⟨HS0.out.later hb2, Blk.new w1 _ _⟩
  have helz : (e : Int) < (l.length : Int) := by omega
  clear hb2 HS0
  go_upto_region 2 with (fail)
  clear g0 g1 g2 g3 g4 g5 g6 g7 g8
  generalize w1.alloc (.cells #[.int .i64 x.kind, .int .i64 x.at_, .int .u64 (wd x.cls 0), .int .u64 (wd x.cls 1), .int .u64 (wd x.cls 2), .int .u64 (wd x.cls 3), .string (bs x.text), .int .i64 x.lo, .int .i64 x.hi] 76) = w3 at *
  generalize w1.heap.size = bx at *
  rw [HX.out] at h7 ⊢
  have HK := Lib.hid h7
  clear h7
  have ⟨e0, e1, e2, e3, e4, e5, e6, e7, e8⟩ := nine_cells HS1.out.box
  rw [HK.out] at e0
  go_upto_region 5 with (fail)
  clear e0 e1 e2 e3 e4 e5 e6 e7 e8
  refine wp_region_stable_last (S := (PoS w (some ⟨bb, oo, none⟩) l br bx x)) (hSt := fun _ _ h hb => h.later hb) (plan := [[(7, none)], [(40, some 0)], [(7, none)], [(42, some 2)], [(7, none)], [(44, some 4)], [(0, none)], [(1, none)], [(2, none)], [(48, some 8)], [(46, some 6), (47, some 7), (49, some 9)], [(41, some 1), (43, some 3), (45, some 5), (50, some 10)]]) rfl (by kernel_rfl) (by kernel_rfl) (by kernel_rfl) (by kernel_rfl) ?hS ?_
  rotate_left
  simp only [List.dropLast]
  iterate 10 first
    | (refine chain_skip (by rfl) (by rfl) ?_)
    | (apply chain_want (by rfl)
       · intro act wx hS hr
         simp at hr
         have ⟨e0, e1, e2, e3, e4, e5, e6, e7, e8⟩ := nine_cells hS.box
         go_simp
         (try go_ints)
         first
           | exact Done.same
      )
  (refine chain_rel (PvR E B) (PvR.later _ _) (by rfl) ?_ ?_
   · intro act wx hS hr
     simp at hr
     have ⟨e0, e1, e2, e3, e4, e5, e6, e7, e8⟩ := nine_cells hS.box
     all_goals go_simp
     ((with_reducible refine (HPO.out _ _ _ hS.o).mono ?_); intro e w' hp; obtain ⟨nv, av, rfl, ho, hi, hb⟩ := hp; obtain ⟨a5, c5, m5, rfl⟩ := row_num hi; obtain ⟨a6, c6, m6, rfl⟩ := row_nd ho; exact Done.rel hb ⟨_, _, rfl, ptr_of ho hi HQ.out.1⟩)
  )
  (refine chain_rel (PvO w.heap.size (wrapL 7 x.lo x.hi E) (B ++ [x.at_])) (PvO.later _ _) (by rfl) ?_ ?_
   · intro act wx hS hr
     simp at hr
     have ⟨e0, e1, e2, e3, e4, e5, e6, e7, e8⟩ := nine_cells hS.box
     all_goals go_simp
     (obtain ⟨hr3, hr4, hr5, v, hr2, nv, av, rfl, hpr⟩ := hr; simp only [hr2, Option.getD_some]; (refine (rwrap5_any 7 x.lo x.hi x.at_ SD.out HQ.out.1 (by have := HQ.out.2; omega) _ hpr).mono ?_); intro e w' hp; obtain ⟨nv', av', rfl, ho, hi, hb⟩ := hp; obtain ⟨a5, c5, m5, rfl⟩ := row_num hi; obtain ⟨a6, c6, m6, rfl⟩ := row_nd ho; exact Done.rel hb ⟨_, _, rfl, ho.weaken hS.o.tk.bel.size, own_low hi hS.o.tk.bel.size⟩)
  )
  show ∀ w', _ → _
  intro wz hz
  simp [Act.put]
  case hS => exact HS1.out
  intro y1 _ y2 hy
  have HOZ := Lib.hid hz.o
  clear hz HS1
  obtain ⟨nv', av', rfl, hno, hio⟩ := hy
  obtain ⟨a5, c5, m5, rfl⟩ := row_num hio
  obtain ⟨a6, c6, m6, rfl⟩ := row_nd hno
  have HNZ := Lib.hid hno
  have HUZ := Lib.hid hio
  have HRZ := Lib.hid HOZ.out.res
  have z0 := HRZ.out.cell 0
  have z1 := HRZ.out.cell 1
  have f0 := HRZ.out.frozen 0
  have f1 := HRZ.out.frozen 1
  simp at z0 z1
  clear hno hio
  go_wp2
  exact bodyPost_ret (v := .agg #[.slice a6 m6 c6, .slice a5 m5 c5]) (by simp [results, Tryz.results93, go_sem, z0, z1, f0, f1]) rfl (by (try rw [HX.out]); exact ⟨_, _, rfl, part_set HNZ.out HRZ.out _ _, part_seti HUZ.out HRZ.out _ _, (HOZ.out.tk.bel.setCell (p := ⟨br, 0, none⟩) HLB.out _).setCell (p := ⟨br, 1, none⟩) HLB.out _⟩)
set_option maxHeartbeats 64000000 in
theorem post_frame (l : List Tk) (A : Option Addr) (c a e : Nat) {E : List Nd} {B : List Int} (hae : a < e) (hel : e < l.length) (hl : l.length ≤ 1000) (hk : (tkAt l a).kind = 8 ∨ (tkAt l a).kind = 9) (h6 : (tkAt l e).kind ≠ 6) (h7 : (tkAt l e).kind ≠ 7) (sd : Sd E) (hq : 0 < B.length ∧ B.length ≤ 4096) (hp : PostOk l A c (a + 1) (e + 1) E B) : PostOk l A c a (e + 1) (wrapL (tkAt l a).kind 0 0 E) (B ++ [-1]) := by
  intro w hrow
  have HPO : Hid (∀ (w0 : World) (br : Nat) (w' : World), OrS w0 A l br w' → Calls Tryz.prog 93 #[.slice A l.length c, .int .i64 ((a : Int) + 1), .int .i64 ((e : Int) + 1)] w' (PtP w' E B)) := fun w0 br w' h => by
    have q := hp w' h.tk.row
    rwa [show ((a + 1 : Nat) : Int) = (a : Int) + 1 by omega, show ((e + 1 : Nat) : Int) = (e : Int) + 1 by omega] at q
  have SD := Lib.hid sd
  have HQ := Lib.hid hq
  have haz : (a : Int) < (e : Int) := by omega
  have HN6 : Hid (((tkAt l e).kind == 6) = false) := beq_false_of_ne h6
  have HN7 : Hid (((tkAt l e).kind == 7) = false) := beq_false_of_ne h7
  clear hp sd hq h6 h7
  have hb1 := (Below.refl w.heap.size w).alloc (Nat.le_refl _) (.cells #[.slice none 0 0, .slice none 0 0] 83)
  have HS0 : Hid (OrS w A l w.heap.size (w.alloc (.cells #[.slice none 0 0, .slice none 0 0] 83))) := ⟨⟨hb1, hrow.later hb1⟩, Blk.new _ _ _⟩
  clear hrow hb1
  go_enter Tryz.func93, Tryz.ntmps93
  go_upto_region 1 with (fail)
  generalize w.alloc (.cells #[.slice none 0 0, .slice none 0 0] 83) = w1 at *
  obtain ⟨br, hbr⟩ : ∃ br, br = w.heap.size := ⟨_, rfl⟩
  rw [← hbr] at HS0 ⊢
  have HLB : Hid (w.heap.size ≤ br) := by rw [hbr]; exact Nat.le_refl _
  clear hbr
  obtain ⟨bb, oo, hA, -, -⟩ := HS0.out.tk.row e hel
  subst hA
  have g := HS0.out.tk.row.at (i := e) hel rfl
  obtain ⟨x, hx⟩ : ∃ x, tkAt l e = x := ⟨_, rfl⟩
  rw [hx] at g
  have HX := Lib.hid hx
  clear hx
  unfold At9K at g
  obtain ⟨g0, g1, g2, g3, g4, g5, g6, g7, g8⟩ := g
  have hb2 := (Below.refl w1.heap.size w1).alloc (Nat.le_refl _) (.cells #[.int .i64 x.kind, .int .i64 x.at_, .int .u64 (wd x.cls 0), .int .u64 (wd x.cls 1), .int .u64 (wd x.cls 2), .int .u64 (wd x.cls 3), .string (bs x.text), .int .i64 x.lo, .int .i64 x.hi] 76)
  have HS1 : Hid (PoS w (some ⟨bb, oo, none⟩) l br w1.heap.size x _) := ⟨HS0.out.later hb2, Blk.new w1 _ _⟩
  have helz : (e : Int) < (l.length : Int) := by omega
  clear hb2 HS0
  go_upto_region 2 with (fail)
  clear g0 g1 g2 g3 g4 g5 g6 g7 g8
  generalize w1.alloc (.cells #[.int .i64 x.kind, .int .i64 x.at_, .int .u64 (wd x.cls 0), .int .u64 (wd x.cls 1), .int .u64 (wd x.cls 2), .int .u64 (wd x.cls 3), .string (bs x.text), .int .i64 x.lo, .int .i64 x.hi] 76) = w3 at *
  generalize w1.heap.size = bx at *
  have n6 := HN6.out
  have n7 := HN7.out
  rw [HX.out] at n6 n7
  have ⟨e0, e1, e2, e3, e4, e5, e6, e7, e8⟩ := nine_cells HS1.out.box
  have g := HS1.out.o.tk.row.at (i := a) (by omega) rfl
  obtain ⟨y, hy⟩ : ∃ y, tkAt l a = y := ⟨_, rfl⟩
  rw [hy] at g
  have HY := Lib.hid hy
  clear hy
  unfold At9K at g
  obtain ⟨g0, g1, g2, g3, g4, g5, g6, g7, g8⟩ := g
  have hb3 := (Below.refl w3.heap.size w3).alloc (Nat.le_refl _) (.cells #[.int .i64 y.kind, .int .i64 y.at_, .int .u64 (wd y.cls 0), .int .u64 (wd y.cls 1), .int .u64 (wd y.cls 2), .int .u64 (wd y.cls 3), .string (bs y.text), .int .i64 y.lo, .int .i64 y.hi] 76)
  have HS2 : Hid (PoS w (some ⟨bb, oo, none⟩) l br w3.heap.size y _) := ⟨HS1.out.o.later hb3, Blk.new w3 _ _⟩
  have halz : (a : Int) < (l.length : Int) := by omega
  clear hb3
  generalize x.kind = xk at *
  go_upto_region 7 with (fail)
  clear e0 e1 e2 e3 e4 e5 e6 e7 e8 g0 g1 g2 g3 g4 g5 g6 g7 g8 HS1 n6 n7
  generalize w3.alloc (.cells #[.int .i64 y.kind, .int .i64 y.at_, .int .u64 (wd y.cls 0), .int .u64 (wd y.cls 1), .int .u64 (wd y.cls 2), .int .u64 (wd y.cls 3), .string (bs y.text), .int .i64 y.lo, .int .i64 y.hi] 76) = w4 at *
  generalize w3.heap.size = by_ at *
  have HS1 := HS2
  clear HS2
  have ⟨e0, e1, e2, e3, e4, e5, e6, e7, e8⟩ := nine_cells HS1.out.box
  rcases hk with h8 | h9
  · rw [HY.out] at h8
    have HK := Lib.hid h8
    clear h8
    have HKK : Hid ((tkAt l a).kind = 8) := by unfold Hid; rw [HY.out]; exact HK.out
    rw [HK.out] at e0
    go_upto_region 8 with (fail)
    clear e0 e1 e2 e3 e4 e5 e6 e7 e8
    refine wp_region_stable_last (S := (PoS w (some ⟨bb, oo, none⟩) l br by_ y)) (hSt := fun _ _ h hb => h.later hb) (plan := [[(8, none)], [(64, some 0)], [(0, none)], [(1, none)], [(67, some 3)], [(2, none)], [(66, some 2), (68, some 4), (69, some 5)], [(65, some 1), (70, some 6)]]) rfl (by kernel_rfl) (by kernel_rfl) (by kernel_rfl) (by kernel_rfl) ?hS ?_
    rotate_left
    simp only [List.dropLast]
    iterate 6 first
      | (refine chain_skip (by rfl) (by rfl) ?_)
      | (apply chain_want (by rfl)
         · intro act wx hS hr
           simp at hr
           have ⟨e0, e1, e2, e3, e4, e5, e6, e7, e8⟩ := nine_cells hS.box
           rw [HK.out] at e0
           go_simp
           (try go_ints)
           first
             | exact Done.same
        )
    (refine chain_rel (PvR E B) (PvR.later _ _) (by rfl) ?_ ?_
     · intro act wx hS hr
       simp at hr
       have ⟨e0, e1, e2, e3, e4, e5, e6, e7, e8⟩ := nine_cells hS.box
       rw [HK.out] at e0
       all_goals go_simp
       ((with_reducible refine (HPO.out _ _ _ hS.o).mono ?_); intro e w' hp; obtain ⟨nv, av, rfl, ho, hi, hb⟩ := hp; obtain ⟨a5, c5, m5, rfl⟩ := row_num hi; obtain ⟨a6, c6, m6, rfl⟩ := row_nd ho; exact Done.rel hb ⟨_, _, rfl, ptr_of ho hi HQ.out.1⟩)
    )
    (refine chain_rel (PvO w.heap.size (wrapL 8 0 0 E) (B ++ [(-1)])) (PvO.later _ _) (by rfl) ?_ ?_
     · intro act wx hS hr
       simp at hr
       have ⟨e0, e1, e2, e3, e4, e5, e6, e7, e8⟩ := nine_cells hS.box
       rw [HK.out] at e0
       all_goals go_simp
       (obtain ⟨hr3, v, hr2, nv, av, rfl, hpr⟩ := hr; simp only [hr2, Option.getD_some]; (refine (rwrap5_any 8 0 0 (-1) SD.out HQ.out.1 (by have := HQ.out.2; omega) _ hpr).mono ?_); intro e w' hp; obtain ⟨nv', av', rfl, ho, hi, hb⟩ := hp; obtain ⟨a5, c5, m5, rfl⟩ := row_num hi; obtain ⟨a6, c6, m6, rfl⟩ := row_nd ho; exact Done.rel hb ⟨_, _, rfl, ho.weaken hS.o.tk.bel.size, own_low hi hS.o.tk.bel.size⟩)
    )
    show ∀ w', _ → _
    intro wz hz
    simp [Act.put]
    case hS => exact HS1.out
    intro y1 _ y2 hy
    have HOZ := Lib.hid hz.o
    clear hz HS1
    have HX := HKK
    obtain ⟨nv', av', rfl, hno, hio⟩ := hy
    obtain ⟨a5, c5, m5, rfl⟩ := row_num hio
    obtain ⟨a6, c6, m6, rfl⟩ := row_nd hno
    have HNZ := Lib.hid hno
    have HUZ := Lib.hid hio
    have HRZ := Lib.hid HOZ.out.res
    have z0 := HRZ.out.cell 0
    have z1 := HRZ.out.cell 1
    have f0 := HRZ.out.frozen 0
    have f1 := HRZ.out.frozen 1
    simp at z0 z1
    clear hno hio
    go_wp2
    exact bodyPost_ret (v := .agg #[.slice a6 m6 c6, .slice a5 m5 c5]) (by simp [results, Tryz.results93, go_sem, z0, z1, f0, f1]) rfl (by (try rw [HX.out]); exact ⟨_, _, rfl, part_set HNZ.out HRZ.out _ _, part_seti HUZ.out HRZ.out _ _, (HOZ.out.tk.bel.setCell (p := ⟨br, 0, none⟩) HLB.out _).setCell (p := ⟨br, 1, none⟩) HLB.out _⟩)
  · rw [HY.out] at h9
    have HK := Lib.hid h9
    clear h9
    have HKK : Hid ((tkAt l a).kind = 9) := by unfold Hid; rw [HY.out]; exact HK.out
    rw [HK.out] at e0
    go_upto_region 8 with (fail)
    clear e0 e1 e2 e3 e4 e5 e6 e7 e8
    refine wp_region_stable_last (S := (PoS w (some ⟨bb, oo, none⟩) l br by_ y)) (hSt := fun _ _ h hb => h.later hb) (plan := [[(8, none)], [(64, some 0)], [(0, none)], [(1, none)], [(67, some 3)], [(2, none)], [(66, some 2), (68, some 4), (69, some 5)], [(65, some 1), (70, some 6)]]) rfl (by kernel_rfl) (by kernel_rfl) (by kernel_rfl) (by kernel_rfl) ?hS ?_
    rotate_left
    simp only [List.dropLast]
    iterate 6 first
      | (refine chain_skip (by rfl) (by rfl) ?_)
      | (apply chain_want (by rfl)
         · intro act wx hS hr
           simp at hr
           have ⟨e0, e1, e2, e3, e4, e5, e6, e7, e8⟩ := nine_cells hS.box
           rw [HK.out] at e0
           go_simp
           (try go_ints)
           first
             | exact Done.same
        )
    (refine chain_rel (PvR E B) (PvR.later _ _) (by rfl) ?_ ?_
     · intro act wx hS hr
       simp at hr
       have ⟨e0, e1, e2, e3, e4, e5, e6, e7, e8⟩ := nine_cells hS.box
       rw [HK.out] at e0
       all_goals go_simp
       ((with_reducible refine (HPO.out _ _ _ hS.o).mono ?_); intro e w' hp; obtain ⟨nv, av, rfl, ho, hi, hb⟩ := hp; obtain ⟨a5, c5, m5, rfl⟩ := row_num hi; obtain ⟨a6, c6, m6, rfl⟩ := row_nd ho; exact Done.rel hb ⟨_, _, rfl, ptr_of ho hi HQ.out.1⟩)
    )
    (refine chain_rel (PvO w.heap.size (wrapL 9 0 0 E) (B ++ [(-1)])) (PvO.later _ _) (by rfl) ?_ ?_
     · intro act wx hS hr
       simp at hr
       have ⟨e0, e1, e2, e3, e4, e5, e6, e7, e8⟩ := nine_cells hS.box
       rw [HK.out] at e0
       all_goals go_simp
       (obtain ⟨hr3, v, hr2, nv, av, rfl, hpr⟩ := hr; simp only [hr2, Option.getD_some]; (refine (rwrap5_any 9 0 0 (-1) SD.out HQ.out.1 (by have := HQ.out.2; omega) _ hpr).mono ?_); intro e w' hp; obtain ⟨nv', av', rfl, ho, hi, hb⟩ := hp; obtain ⟨a5, c5, m5, rfl⟩ := row_num hi; obtain ⟨a6, c6, m6, rfl⟩ := row_nd ho; exact Done.rel hb ⟨_, _, rfl, ho.weaken hS.o.tk.bel.size, own_low hi hS.o.tk.bel.size⟩)
    )
    show ∀ w', _ → _
    intro wz hz
    simp [Act.put]
    case hS => exact HS1.out
    intro y1 _ y2 hy
    have HOZ := Lib.hid hz.o
    clear hz HS1
    have HX := HKK
    obtain ⟨nv', av', rfl, hno, hio⟩ := hy
    obtain ⟨a5, c5, m5, rfl⟩ := row_num hio
    obtain ⟨a6, c6, m6, rfl⟩ := row_nd hno
    have HNZ := Lib.hid hno
    have HUZ := Lib.hid hio
    have HRZ := Lib.hid HOZ.out.res
    have z0 := HRZ.out.cell 0
    have z1 := HRZ.out.cell 1
    have f0 := HRZ.out.frozen 0
    have f1 := HRZ.out.frozen 1
    simp at z0 z1
    clear hno hio
    go_wp2
    exact bodyPost_ret (v := .agg #[.slice a6 m6 c6, .slice a5 m5 c5]) (by simp [results, Tryz.results93, go_sem, z0, z1, f0, f1]) rfl (by (try rw [HX.out]); exact ⟨_, _, rfl, part_set HNZ.out HRZ.out _ _, part_seti HUZ.out HRZ.out _ _, (HOZ.out.tk.bel.setCell (p := ⟨br, 0, none⟩) HLB.out _).setCell (p := ⟨br, 1, none⟩) HLB.out _⟩)
theorem own_one {w : World} {base b : Nat} {n : Nd} (h : Blk w b (ndC n) 44) (hb : base ≤ b) : OwnN w base (.slice (some ⟨b, 0, none⟩) 1 1) [n] :=
  ⟨rfl, .inr ⟨b, 1, ndC n, rfl, hb, h, Nat.le_refl _, by unfold maxLen; omega, rfl, by simp [flat10]; rfl⟩⟩
theorem own_onei {w : World} {base b : Nat} {x : Int} (h : Blk w b #[.int .i64 x] 3) (hb : base ≤ b) : OwnI w base (.slice (some ⟨b, 0, none⟩) 1 1) [x] :=
  ⟨rfl, .inr ⟨b, 1, #[.int .i64 x], rfl, hb, h, Nat.le_refl _, by unfold maxLen; omega, rfl, by simp [intsV]⟩⟩
set_option maxHeartbeats 64000000 in
theorem post_or (l : List Tk) (A : Option Addr) (c a e : Nat) {D : List Nd} {Q : List Int} (hae : a + 1 < e) (hel : e < l.length) (hl : l.length ≤ 1000) (h3 : (tkAt l a).kind = 3) (h6 : (tkAt l e).kind ≠ 6) (h7 : (tkAt l e).kind ≠ 7) (hp : OrOk l A c (a + 1) e D Q) : PostOk l A c a (e + 1) D Q := by
  intro w hrow
  have HOR : Hid (∀ (w0 : World) (br : Nat) (w' : World), OrS w0 A l br w' → Calls Tryz.prog 41 #[.slice A l.length c, .int .i64 ((a : Int) + 1), .int .i64 (e : Int)] w' (PtP w' D Q)) := fun w0 br w' h => by
    have q := hp w' h.tk.row
    rwa [show ((a + 1 : Nat) : Int) = (a : Int) + 1 by omega] at q
  have haz : (a : Int) + 1 < (e : Int) := by omega
  have haz2 : (a : Int) < (e : Int) := by omega
  have HN6 : Hid (((tkAt l e).kind == 6) = false) := beq_false_of_ne h6
  have HN7 : Hid (((tkAt l e).kind == 7) = false) := beq_false_of_ne h7
  clear hp h6 h7
  have hb1 := (Below.refl w.heap.size w).alloc (Nat.le_refl _) (.cells #[.slice none 0 0, .slice none 0 0] 83)
  have HS0 : Hid (OrS w A l w.heap.size (w.alloc (.cells #[.slice none 0 0, .slice none 0 0] 83))) := ⟨⟨hb1, hrow.later hb1⟩, Blk.new _ _ _⟩
  clear hrow hb1
  go_enter Tryz.func93, Tryz.ntmps93
  go_upto_region 1 with (fail)
  generalize w.alloc (.cells #[.slice none 0 0, .slice none 0 0] 83) = w1 at *
  obtain ⟨br, hbr⟩ : ∃ br, br = w.heap.size := ⟨_, rfl⟩
  rw [← hbr] at HS0 ⊢
  have HLB : Hid (w.heap.size ≤ br) := by rw [hbr]; exact Nat.le_refl _
  clear hbr
  obtain ⟨bb, oo, hA, -, -⟩ := HS0.out.tk.row e hel
  subst hA
  have g := HS0.out.tk.row.at (i := e) hel rfl
  obtain ⟨x, hx⟩ : ∃ x, tkAt l e = x := ⟨_, rfl⟩
  rw [hx] at g
  have HX := Lib.hid hx
  clear hx
  unfold At9K at g
  obtain ⟨g0, g1, g2, g3, g4, g5, g6, g7, g8⟩ := g
  have hb2 := (Below.refl w1.heap.size w1).alloc (Nat.le_refl _) (.cells #[.int .i64 x.kind, .int .i64 x.at_, .int .u64 (wd x.cls 0), .int .u64 (wd x.cls 1), .int .u64 (wd x.cls 2), .int .u64 (wd x.cls 3), .string (bs x.text), .int .i64 x.lo, .int .i64 x.hi] 76)
  have HS1 : Hid (PoS w (some ⟨bb, oo, none⟩) l br w1.heap.size x _) := ⟨HS0.out.later hb2, Blk.new w1 _ _⟩
  have helz : (e : Int) < (l.length : Int) := by omega
  clear hb2 HS0
  go_upto_region 2 with (fail)
  clear g0 g1 g2 g3 g4 g5 g6 g7 g8
  generalize w1.alloc (.cells #[.int .i64 x.kind, .int .i64 x.at_, .int .u64 (wd x.cls 0), .int .u64 (wd x.cls 1), .int .u64 (wd x.cls 2), .int .u64 (wd x.cls 3), .string (bs x.text), .int .i64 x.lo, .int .i64 x.hi] 76) = w3 at *
  generalize w1.heap.size = bx at *
  have n6 := HN6.out
  have n7 := HN7.out
  rw [HX.out] at n6 n7
  have ⟨e0, e1, e2, e3, e4, e5, e6, e7, e8⟩ := nine_cells HS1.out.box
  have g := HS1.out.o.tk.row.at (i := a) (by omega) rfl
  obtain ⟨y, hy⟩ : ∃ y, tkAt l a = y := ⟨_, rfl⟩
  rw [hy] at g
  have HY := Lib.hid hy
  clear hy
  unfold At9K at g
  obtain ⟨g0, g1, g2, g3, g4, g5, g6, g7, g8⟩ := g
  have hb3 := (Below.refl w3.heap.size w3).alloc (Nat.le_refl _) (.cells #[.int .i64 y.kind, .int .i64 y.at_, .int .u64 (wd y.cls 0), .int .u64 (wd y.cls 1), .int .u64 (wd y.cls 2), .int .u64 (wd y.cls 3), .string (bs y.text), .int .i64 y.lo, .int .i64 y.hi] 76)
  have HS2 : Hid (PoS w (some ⟨bb, oo, none⟩) l br w3.heap.size y _) := ⟨HS1.out.o.later hb3, Blk.new w3 _ _⟩
  have halz : (a : Int) < (l.length : Int) := by omega
  clear hb3
  generalize x.kind = xk at *
  go_upto_region 7 with (fail)
  clear e0 e1 e2 e3 e4 e5 e6 e7 e8 g0 g1 g2 g3 g4 g5 g6 g7 g8 HS1 n6 n7
  generalize w3.alloc (.cells #[.int .i64 y.kind, .int .i64 y.at_, .int .u64 (wd y.cls 0), .int .u64 (wd y.cls 1), .int .u64 (wd y.cls 2), .int .u64 (wd y.cls 3), .string (bs y.text), .int .i64 y.lo, .int .i64 y.hi] 76) = w4 at *
  generalize w3.heap.size = by_ at *
  have HS1 := HS2
  clear HS2
  have ⟨e0, e1, e2, e3, e4, e5, e6, e7, e8⟩ := nine_cells HS1.out.box
  rw [HY.out] at h3
  rw [h3] at e0
  clear h3
  have h2 : ((e : Int) + 1 - (a : Int) == 2) = false := by rw [beq_eq_false_iff_ne]; omega
  go_wp2_with fail
  refine (HOR.out _ _ _ HS1.out.o).mono ?_; rintro en w5 ⟨nv, av, rfl, ho, hi, hb⟩
  have HOZ := Lib.hid (HS1.out.o.later hb)
  have hlo := HS1.out.o.tk.bel.size
  have hy : PvO w.heap.size D Q (.agg #[nv, av]) w5 := ⟨nv, av, rfl, ho.weaken hlo, own_low hi hlo⟩
  clear hb ho hi hlo HS1 e0 e1 e2 e3 e4 e5 e6 e7 e8 h2 HOR
  obtain ⟨nv', av', hva, hno, hio⟩ := hy
  injection hva with hva
  obtain ⟨rfl, rfl⟩ : nv = nv' ∧ av = av' := by simpa using hva
  clear hva
  obtain ⟨a5, c5, m5, rfl⟩ := row_num hio
  obtain ⟨a6, c6, m6, rfl⟩ := row_nd hno
  have HNZ := Lib.hid hno
  have HUZ := Lib.hid hio
  have HRZ := Lib.hid HOZ.out.res
  have z0 := HRZ.out.cell 0
  have z1 := HRZ.out.cell 1
  have f0 := HRZ.out.frozen 0
  have f1 := HRZ.out.frozen 1
  simp at z0 z1
  clear hno hio
  go_wp2
  exact bodyPost_ret (v := .agg #[.slice a6 m6 c6, .slice a5 m5 c5]) (by simp [results, Tryz.results93, go_sem, z0, z1, f0, f1]) rfl (by (try rw [HX.out]); exact ⟨_, _, rfl, part_set HNZ.out HRZ.out _ _, part_seti HUZ.out HRZ.out _ _, (HOZ.out.tk.bel.setCell (p := ⟨br, 0, none⟩) HLB.out _).setCell (p := ⟨br, 1, none⟩) HLB.out _⟩)
theorem leaf_own {w0 w4 : World} {br : Nat} {n : Nd} {x : Int} {cs : Array Value} {v0 v1 : Value} (hb : Below w0.heap.size w0 w4) (hlb : w0.heap.size ≤ br) (hcs : ndC n = cs) :
    OwnN ((((w4.setCell ⟨br, 0, none⟩ v0).setCell ⟨br, 1, none⟩ v1).alloc (.cells cs 44)).alloc (.cells #[.int .i64 x] 3)) w0.heap.size (.slice (some ⟨w4.heap.size, 0, none⟩) 1 1) [n] ∧
    OwnI ((((w4.setCell ⟨br, 0, none⟩ v0).setCell ⟨br, 1, none⟩ v1).alloc (.cells cs 44)).alloc (.cells #[.int .i64 x] 3)) w0.heap.size (.slice (some ⟨w4.heap.size + 1, 0, none⟩) 1 1) [x] ∧
    Below w0.heap.size w0 ((((w4.setCell ⟨br, 0, none⟩ v0).setCell ⟨br, 1, none⟩ v1).alloc (.cells cs 44)).alloc (.cells #[.int .i64 x] 3)) := by
  subst hcs
  have h1 := (hb.setCell (p := ⟨br, 0, none⟩) hlb v0).setCell (p := ⟨br, 1, none⟩) hlb v1
  have hsz := hb.size
  refine ⟨own_one ((Blk.new' (by simp [World.setCell]) _ _).alloc _) hsz, own_onei (Blk.new' (by simp [World.setCell]) _ _) (by omega), (h1.alloc (by simp [World.setCell]; exact hsz) _).alloc (by simp [World.setCell]; omega) _⟩
set_option maxHeartbeats 64000000 in
theorem post_none (l : List Tk) (A : Option Addr) (c a e : Nat) (hae : a + 1 = e) (hel : e < l.length) (hl : l.length ≤ 1000) (h3 : (tkAt l a).kind = 3) (h6 : (tkAt l e).kind ≠ 6) (h7 : (tkAt l e).kind ≠ 7) : PostOk l A c a (e + 1) [{ kind := 1 }] [-1] := by
  intro w hrow
  have haz2 : (a : Int) < (e : Int) := by omega
  have HN6 : Hid (((tkAt l e).kind == 6) = false) := beq_false_of_ne h6
  have HN7 : Hid (((tkAt l e).kind == 7) = false) := beq_false_of_ne h7
  clear h6 h7
  have hb1 := (Below.refl w.heap.size w).alloc (Nat.le_refl _) (.cells #[.slice none 0 0, .slice none 0 0] 83)
  have HS0 : Hid (OrS w A l w.heap.size (w.alloc (.cells #[.slice none 0 0, .slice none 0 0] 83))) := ⟨⟨hb1, hrow.later hb1⟩, Blk.new _ _ _⟩
  clear hrow hb1
  go_enter Tryz.func93, Tryz.ntmps93
  go_upto_region 1 with (fail)
  generalize w.alloc (.cells #[.slice none 0 0, .slice none 0 0] 83) = w1 at *
  obtain ⟨br, hbr⟩ : ∃ br, br = w.heap.size := ⟨_, rfl⟩
  rw [← hbr] at HS0 ⊢
  have HLB : Hid (w.heap.size ≤ br) := by rw [hbr]; exact Nat.le_refl _
  clear hbr
  obtain ⟨bb, oo, hA, -, -⟩ := HS0.out.tk.row e hel
  subst hA
  have g := HS0.out.tk.row.at (i := e) hel rfl
  obtain ⟨x, hx⟩ : ∃ x, tkAt l e = x := ⟨_, rfl⟩
  rw [hx] at g
  have HX := Lib.hid hx
  clear hx
  unfold At9K at g
  obtain ⟨g0, g1, g2, g3, g4, g5, g6, g7, g8⟩ := g
  have hb2 := (Below.refl w1.heap.size w1).alloc (Nat.le_refl _) (.cells #[.int .i64 x.kind, .int .i64 x.at_, .int .u64 (wd x.cls 0), .int .u64 (wd x.cls 1), .int .u64 (wd x.cls 2), .int .u64 (wd x.cls 3), .string (bs x.text), .int .i64 x.lo, .int .i64 x.hi] 76)
  have HS1 : Hid (PoS w (some ⟨bb, oo, none⟩) l br w1.heap.size x _) := ⟨HS0.out.later hb2, Blk.new w1 _ _⟩
  have helz : (e : Int) < (l.length : Int) := by omega
  clear hb2 HS0
  go_upto_region 2 with (fail)
  clear g0 g1 g2 g3 g4 g5 g6 g7 g8
  generalize w1.alloc (.cells #[.int .i64 x.kind, .int .i64 x.at_, .int .u64 (wd x.cls 0), .int .u64 (wd x.cls 1), .int .u64 (wd x.cls 2), .int .u64 (wd x.cls 3), .string (bs x.text), .int .i64 x.lo, .int .i64 x.hi] 76) = w3 at *
  generalize w1.heap.size = bx at *
  have n6 := HN6.out
  have n7 := HN7.out
  rw [HX.out] at n6 n7
  have ⟨e0, e1, e2, e3, e4, e5, e6, e7, e8⟩ := nine_cells HS1.out.box
  have g := HS1.out.o.tk.row.at (i := a) (by omega) rfl
  obtain ⟨y, hy⟩ : ∃ y, tkAt l a = y := ⟨_, rfl⟩
  rw [hy] at g
  have HY := Lib.hid hy
  clear hy
  unfold At9K at g
  obtain ⟨g0, g1, g2, g3, g4, g5, g6, g7, g8⟩ := g
  have hb3 := (Below.refl w3.heap.size w3).alloc (Nat.le_refl _) (.cells #[.int .i64 y.kind, .int .i64 y.at_, .int .u64 (wd y.cls 0), .int .u64 (wd y.cls 1), .int .u64 (wd y.cls 2), .int .u64 (wd y.cls 3), .string (bs y.text), .int .i64 y.lo, .int .i64 y.hi] 76)
  have HS2 : Hid (PoS w (some ⟨bb, oo, none⟩) l br w3.heap.size y _) := ⟨HS1.out.o.later hb3, Blk.new w3 _ _⟩
  have halz : (a : Int) < (l.length : Int) := by omega
  clear hb3
  generalize x.kind = xk at *
  go_upto_region 7 with (fail)
  clear e0 e1 e2 e3 e4 e5 e6 e7 e8 g0 g1 g2 g3 g4 g5 g6 g7 g8 HS1 n6 n7
  generalize w3.alloc (.cells #[.int .i64 y.kind, .int .i64 y.at_, .int .u64 (wd y.cls 0), .int .u64 (wd y.cls 1), .int .u64 (wd y.cls 2), .int .u64 (wd y.cls 3), .string (bs y.text), .int .i64 y.lo, .int .i64 y.hi] 76) = w4 at *
  generalize w3.heap.size = by_ at *
  have HS1 := HS2
  clear HS2
  have ⟨e0, e1, e2, e3, e4, e5, e6, e7, e8⟩ := nine_cells HS1.out.box
  rw [HY.out] at h3
  rw [h3] at e0
  clear h3
  have h2 : ((e : Int) + 1 - (a : Int) == 2) = true := by rw [beq_iff_eq]; omega
  have hbrl := HS1.out.o.res.lt
  have z0 := HS1.out.o.res.cell 0
  have z1 := HS1.out.o.res.cell 1
  have f0 := HS1.out.o.res.frozen 0
  have f1 := HS1.out.o.res.frozen 1
  simp at z0 z1
  go_upto_region 10 with (fail)
  clear e0 e1 e2 e3 e4 e5 e6 e7 e8
  go_wp2
  exact bodyPost_ret (v := .agg #[.slice (some ⟨w4.heap.size, 0, none⟩) 1 1, .slice (some ⟨w4.heap.size + 1, 0, none⟩) 1 1]) (by simp [results, Tryz.results93, go_sem, z0, z1, f0, f1, hbrl]) rfl (by have q := leaf_own (n := { kind := 1 }) (x := -1) (v0 := .slice (some ⟨w4.heap.size, 0, none⟩) 1 1) (v1 := .slice (some ⟨w4.heap.size + 1, 0, none⟩) 1 1) HS1.out.o.tk.bel HLB.out (by rw [ndC_zero]); exact ⟨_, _, rfl, q.1, q.2.1, q.2.2⟩)
set_option maxHeartbeats 64000000 in
theorem post_cls (l : List Tk) (A : Option Addr) (c e : Nat) (hel : e < l.length) (hl : l.length ≤ 1000) (h1 : (tkAt l e).kind = 1) : PostOk l A c e (e + 1) [{ kind := 2, cls := (tkAt l e).cls }] [-1] := by
  intro w hrow
  have hb1 := (Below.refl w.heap.size w).alloc (Nat.le_refl _) (.cells #[.slice none 0 0, .slice none 0 0] 83)
  have HS0 : Hid (OrS w A l w.heap.size (w.alloc (.cells #[.slice none 0 0, .slice none 0 0] 83))) := ⟨⟨hb1, hrow.later hb1⟩, Blk.new _ _ _⟩
  clear hrow hb1
  go_enter Tryz.func93, Tryz.ntmps93
  go_upto_region 1 with (fail)
  generalize w.alloc (.cells #[.slice none 0 0, .slice none 0 0] 83) = w1 at *
  obtain ⟨br, hbr⟩ : ∃ br, br = w.heap.size := ⟨_, rfl⟩
  rw [← hbr] at HS0 ⊢
  have HLB : Hid (w.heap.size ≤ br) := by rw [hbr]; exact Nat.le_refl _
  clear hbr
  obtain ⟨bb, oo, hA, -, -⟩ := HS0.out.tk.row e hel
  subst hA
  have g := HS0.out.tk.row.at (i := e) hel rfl
  obtain ⟨x, hx⟩ : ∃ x, tkAt l e = x := ⟨_, rfl⟩
  rw [hx] at g
  have HX := Lib.hid hx
  clear hx
  unfold At9K at g
  obtain ⟨g0, g1, g2, g3, g4, g5, g6, g7, g8⟩ := g
  have hb2 := (Below.refl w1.heap.size w1).alloc (Nat.le_refl _) (.cells #[.int .i64 x.kind, .int .i64 x.at_, .int .u64 (wd x.cls 0), .int .u64 (wd x.cls 1), .int .u64 (wd x.cls 2), .int .u64 (wd x.cls 3), .string (bs x.text), .int .i64 x.lo, .int .i64 x.hi] 76)
  have HS1 : Hid (PoS w (some ⟨bb, oo, none⟩) l br w1.heap.size x _) := ⟨HS0.out.later hb2, Blk.new w1 _ _⟩
  have helz : (e : Int) < (l.length : Int) := by omega
  clear hb2 HS0
  go_upto_region 2 with (fail)
  clear g0 g1 g2 g3 g4 g5 g6 g7 g8
  generalize w1.alloc (.cells #[.int .i64 x.kind, .int .i64 x.at_, .int .u64 (wd x.cls 0), .int .u64 (wd x.cls 1), .int .u64 (wd x.cls 2), .int .u64 (wd x.cls 3), .string (bs x.text), .int .i64 x.lo, .int .i64 x.hi] 76) = w3 at *
  generalize w1.heap.size = bx at *
  rw [HX.out] at h1
  have HK1 := Lib.hid h1
  clear h1
  have hnn : ¬ (e : Int) < (e : Int) := by omega
  have g := HS1.out.o.tk.row.at (i := e) hel rfl
  rw [HX.out] at g
  unfold At9K at g
  obtain ⟨g0, g1, g2, g3, g4, g5, g6, g7, g8⟩ := g
  have hb3 := (Below.refl w3.heap.size w3).alloc (Nat.le_refl _) (.cells #[.int .i64 x.kind, .int .i64 x.at_, .int .u64 (wd x.cls 0), .int .u64 (wd x.cls 1), .int .u64 (wd x.cls 2), .int .u64 (wd x.cls 3), .string (bs x.text), .int .i64 x.lo, .int .i64 x.hi] 76)
  have HS2 : Hid (PoS w (some ⟨bb, oo, none⟩) l br w3.heap.size x _) := ⟨HS1.out.o.later hb3, Blk.new w3 _ _⟩
  clear hb3
  go_upto_region 7 with (fail)
  clear g0 g1 g2 g3 g4 g5 g6 g7 g8 HS1
  generalize w3.alloc (.cells #[.int .i64 x.kind, .int .i64 x.at_, .int .u64 (wd x.cls 0), .int .u64 (wd x.cls 1), .int .u64 (wd x.cls 2), .int .u64 (wd x.cls 3), .string (bs x.text), .int .i64 x.lo, .int .i64 x.hi] 76) = w4 at *
  generalize w3.heap.size = by_ at *
  have HS1 := HS2
  clear HS2
  have ⟨e0, e1, e2, e3, e4, e5, e6, e7, e8⟩ := nine_cells HS1.out.box
  rw [HK1.out] at e0
  have hbrl := HS1.out.o.res.lt
  have z0 := HS1.out.o.res.cell 0
  have z1 := HS1.out.o.res.cell 1
  have f0 := HS1.out.o.res.frozen 0
  have f1 := HS1.out.o.res.frozen 1
  simp at z0 z1
  go_wp2
  clear e0 e1 e2 e3 e4 e5 e6 e7 e8
  exact bodyPost_ret (v := .agg #[.slice (some ⟨w4.heap.size, 0, none⟩) 1 1, .slice (some ⟨w4.heap.size + 1, 0, none⟩) 1 1]) (by simp [results, Tryz.results93, go_sem, z0, z1, f0, f1, hbrl]) rfl (by rw [HX.out]; have q := leaf_own (n := { kind := 2, cls := x.cls }) (x := -1) (v0 := .slice (some ⟨w4.heap.size, 0, none⟩) 1 1) (v1 := .slice (some ⟨w4.heap.size + 1, 0, none⟩) 1 1) HS1.out.o.tk.bel HLB.out (rfl); exact ⟨_, _, rfl, q.1, q.2.1, q.2.2⟩)
set_option maxHeartbeats 64000000 in
theorem post_text (l : List Tk) (A : Option Addr) (c e : Nat) (hel : e < l.length) (hl : l.length ≤ 1000) (h1 : (tkAt l e).kind = 2) : PostOk l A c e (e + 1) [{ kind := 3, text := (tkAt l e).text }] [-1] := by
  intro w hrow
  have hb1 := (Below.refl w.heap.size w).alloc (Nat.le_refl _) (.cells #[.slice none 0 0, .slice none 0 0] 83)
  have HS0 : Hid (OrS w A l w.heap.size (w.alloc (.cells #[.slice none 0 0, .slice none 0 0] 83))) := ⟨⟨hb1, hrow.later hb1⟩, Blk.new _ _ _⟩
  clear hrow hb1
  go_enter Tryz.func93, Tryz.ntmps93
  go_upto_region 1 with (fail)
  generalize w.alloc (.cells #[.slice none 0 0, .slice none 0 0] 83) = w1 at *
  obtain ⟨br, hbr⟩ : ∃ br, br = w.heap.size := ⟨_, rfl⟩
  rw [← hbr] at HS0 ⊢
  have HLB : Hid (w.heap.size ≤ br) := by rw [hbr]; exact Nat.le_refl _
  clear hbr
  obtain ⟨bb, oo, hA, -, -⟩ := HS0.out.tk.row e hel
  subst hA
  have g := HS0.out.tk.row.at (i := e) hel rfl
  obtain ⟨x, hx⟩ : ∃ x, tkAt l e = x := ⟨_, rfl⟩
  rw [hx] at g
  have HX := Lib.hid hx
  clear hx
  unfold At9K at g
  obtain ⟨g0, g1, g2, g3, g4, g5, g6, g7, g8⟩ := g
  have hb2 := (Below.refl w1.heap.size w1).alloc (Nat.le_refl _) (.cells #[.int .i64 x.kind, .int .i64 x.at_, .int .u64 (wd x.cls 0), .int .u64 (wd x.cls 1), .int .u64 (wd x.cls 2), .int .u64 (wd x.cls 3), .string (bs x.text), .int .i64 x.lo, .int .i64 x.hi] 76)
  have HS1 : Hid (PoS w (some ⟨bb, oo, none⟩) l br w1.heap.size x _) := ⟨HS0.out.later hb2, Blk.new w1 _ _⟩
  have helz : (e : Int) < (l.length : Int) := by omega
  clear hb2 HS0
  go_upto_region 2 with (fail)
  clear g0 g1 g2 g3 g4 g5 g6 g7 g8
  generalize w1.alloc (.cells #[.int .i64 x.kind, .int .i64 x.at_, .int .u64 (wd x.cls 0), .int .u64 (wd x.cls 1), .int .u64 (wd x.cls 2), .int .u64 (wd x.cls 3), .string (bs x.text), .int .i64 x.lo, .int .i64 x.hi] 76) = w3 at *
  generalize w1.heap.size = bx at *
  rw [HX.out] at h1
  have HK1 := Lib.hid h1
  clear h1
  have hnn : ¬ (e : Int) < (e : Int) := by omega
  have g := HS1.out.o.tk.row.at (i := e) hel rfl
  rw [HX.out] at g
  unfold At9K at g
  obtain ⟨g0, g1, g2, g3, g4, g5, g6, g7, g8⟩ := g
  have hb3 := (Below.refl w3.heap.size w3).alloc (Nat.le_refl _) (.cells #[.int .i64 x.kind, .int .i64 x.at_, .int .u64 (wd x.cls 0), .int .u64 (wd x.cls 1), .int .u64 (wd x.cls 2), .int .u64 (wd x.cls 3), .string (bs x.text), .int .i64 x.lo, .int .i64 x.hi] 76)
  have HS2 : Hid (PoS w (some ⟨bb, oo, none⟩) l br w3.heap.size x _) := ⟨HS1.out.o.later hb3, Blk.new w3 _ _⟩
  clear hb3
  go_upto_region 7 with (fail)
  clear g0 g1 g2 g3 g4 g5 g6 g7 g8 HS1
  generalize w3.alloc (.cells #[.int .i64 x.kind, .int .i64 x.at_, .int .u64 (wd x.cls 0), .int .u64 (wd x.cls 1), .int .u64 (wd x.cls 2), .int .u64 (wd x.cls 3), .string (bs x.text), .int .i64 x.lo, .int .i64 x.hi] 76) = w4 at *
  generalize w3.heap.size = by_ at *
  have HS1 := HS2
  clear HS2
  have ⟨e0, e1, e2, e3, e4, e5, e6, e7, e8⟩ := nine_cells HS1.out.box
  rw [HK1.out] at e0
  have hbrl := HS1.out.o.res.lt
  have z0 := HS1.out.o.res.cell 0
  have z1 := HS1.out.o.res.cell 1
  have f0 := HS1.out.o.res.frozen 0
  have f1 := HS1.out.o.res.frozen 1
  simp at z0 z1
  go_wp2
  clear e0 e1 e2 e3 e4 e5 e6 e7 e8
  exact bodyPost_ret (v := .agg #[.slice (some ⟨w4.heap.size, 0, none⟩) 1 1, .slice (some ⟨w4.heap.size + 1, 0, none⟩) 1 1]) (by simp [results, Tryz.results93, go_sem, z0, z1, f0, f1, hbrl]) rfl (by rw [HX.out]; have q := leaf_own (n := { kind := 3, text := x.text }) (x := -1) (v0 := .slice (some ⟨w4.heap.size, 0, none⟩) 1 1) (v1 := .slice (some ⟨w4.heap.size + 1, 0, none⟩) 1 1) HS1.out.o.tk.bel HLB.out (by rw [ndC_zero]); exact ⟨_, _, rfl, q.1, q.2.1, q.2.2⟩)
end Go.Proofs.YtcgjmnhmhiddkaaGreatDoor
namespace Go.Proofs.YtcgjmnhmhiddkaaGreatDoor
open Go Go.RowKit
set_option linter.unusedVariables false
set_option linter.unusedSimpArgs false
theorem post_of (l : List Tk) (A : Option Addr) (c : Nat) (hl : l.length ≤ 1000) (hk : TkOk l) (hM : ∀ p, (tkAt l p).text.length ≤ 281474976710656) (n : Nat)
    (ihp : ∀ a b D Q, Dv l .post a b D Q → b ≤ l.length → b - a < n → PostOk l A c a b D Q)
    (iho : ∀ a b D Q, Dv l .or a b D Q → b < l.length → (tkAt l b).kind ≠ 6 → (tkAt l b).kind ≠ 7 → b - a < n → OrOk l A c a b D Q)
    (a b : Nat) (D : List Nd) (Q : List Int) (h : Dv l .post a b D Q) (hb : b ≤ l.length) (hn : b - a ≤ n) : PostOk l A c a b D Q := by
  have hlt := ((dv_len h).2.2 (by intro h; cases h)).1
  rcases dv_post_last h with ⟨E, B, h1, hp, hw, rfl⟩ | ⟨h6, h7, hat⟩
  · obtain ⟨e, rfl⟩ : ∃ e, b = e + 1 := ⟨b - 1, by omega⟩
    rw [Nat.add_sub_cancel] at hp hw ⊢
    obtain ⟨sd, hq⟩ := dv_sd hk hM hl (by intro h; cases h) hp (by omega)
    have hq1 := ihp _ _ _ _ hp (by omega) (by omega)
    rcases hw with ⟨h6, rfl⟩ | ⟨h7, rfl⟩
    · exact post_star l A c a e (by omega) (by omega) hl h6 sd hq hq1
    · exact post_rep l A c a e (by omega) (by omega) hl h7 sd hq hq1
  · rcases atom_cases hat with ⟨h1, rfl, rfl, rfl⟩ | ⟨h2, rfl, rfl, rfl⟩ | ⟨h3, hg⟩ | ⟨h89, E, B, hg, rfl, rfl⟩
    · exact post_cls l A c a (by omega) hl h1
    · exact post_text l A c a (by omega) hl h2
    · obtain ⟨_, h4, hc⟩ := dv_group hg
      rcases hc with ⟨rfl, rfl, rfl⟩ | ⟨h5, hor⟩
      · exact post_none l A c a (a + 1) rfl (by omega) hl h3 h6 h7
      · obtain ⟨e, rfl⟩ : ∃ e, b = e + 1 := ⟨b - 1, by omega⟩
        rw [Nat.add_sub_cancel] at hor h6 h7
        exact post_or l A c a e (by omega) (by omega) hl h3 h6 h7 (iho _ _ _ _ hor (by omega) h6 h7 (by omega))
    · have hpg : Dv l .post (a + 1) b E B := .post0 (.brk (dv_group hg).1 hg)
      obtain ⟨sd, hq⟩ := dv_sd hk hM hl (by intro h; cases h) hpg (by omega)
      obtain ⟨e, rfl⟩ : ∃ e, b = e + 1 := ⟨b - 1, by omega⟩
      rw [Nat.add_sub_cancel] at h6 h7
      have := ((dv_len hpg).2.2 (by intro h; cases h)).1
      exact post_frame l A c a e (by omega) (by omega) hl h89 h6 h7 sd hq (ihp _ _ _ _ hpg (by omega) (by omega))
theorem or_all (l : List Tk) (A : Option Addr) (c : Nat) (hl : l.length ≤ 1000) (hk : TkOk l) (hM : ∀ p, (tkAt l p).text.length ≤ 281474976710656) (n : Nat) :
    (∀ a b D Q, Dv l .post a b D Q → b ≤ l.length → b - a < n → PostOk l A c a b D Q) ∧
    (∀ a b D Q, Dv l .or a b D Q → b < l.length → (tkAt l b).kind ≠ 6 → (tkAt l b).kind ≠ 7 → b - a < n → OrOk l A c a b D Q) := by
  induction n with
  | zero => exact ⟨fun a b D Q _ _ h => absurd h (Nat.not_lt_zero _), fun a b D Q _ _ _ _ h => absurd h (Nat.not_lt_zero _)⟩
  | succ n ih =>
    have hp := post_of l A c hl hk hM n ih.1 ih.2
    have hr : ∀ a b D Q, Dv l .row a b D Q → b < l.length → (tkAt l b).kind ≠ 6 → (tkAt l b).kind ≠ 7 → b - a ≤ n → RowOk l A c a b D Q := fun a b D Q h h1 h6 h7 h2 =>
      row_ok l A c a b h h6 h7 h1 hl hk hM (fun x y E B d h3 h4 => hp x y E B d (by omega) (by omega))
    refine ⟨fun a b D Q h h1 h2 => hp a b D Q h h1 (by omega), fun a b D Q h h1 h6 h7 h2 => ?_⟩
    obtain ⟨hab, hc⟩ := or_top h
    rcases hc with ⟨d, hno⟩ | ⟨x, D1, A1, E, B, h3, h4, d, e, rfl, rfl, ht, hno⟩
    · exact or_row l A c a b (by omega) (by omega) hl hno (hr _ _ _ _ d h1 h6 h7 (by omega))
    · obtain ⟨sd1, hq1⟩ := dv_sd hk hM hl (by intro h; cases h) d (by omega)
      obtain ⟨sd2, hq2⟩ := dv_sd hk hM hl (by intro h; cases h) e (by omega)
      have h5 : (tkAt l x).kind = 5 := ht.1
      exact or_split l A c a b x h3 h4 (by omega) hl ht hno sd1 sd2 hq1 hq2 (ih.2 _ _ _ _ d (by omega) (by omega) (by omega) (by omega)) (hr _ _ _ _ e h1 h6 h7 (by omega))
theorem or_ok (l : List Tk) (A : Option Addr) (c : Nat) (hl : l.length ≤ 1000) (hk : TkOk l) (hM : ∀ p, (tkAt l p).text.length ≤ 281474976710656) {a b : Nat} {D : List Nd} {Q : List Int} (h : Dv l .or a b D Q) (hb : b < l.length) (h6 : (tkAt l b).kind ≠ 6) (h7 : (tkAt l b).kind ≠ 7) : OrOk l A c a b D Q :=
  (or_all l A c hl hk hM (b - a + 1)).2 a b D Q h hb h6 h7 (by omega)
end Go.Proofs.YtcgjmnhmhiddkaaGreatDoor
