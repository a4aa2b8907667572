/- The statement NodeParts of layer 4, walked. -/
import Derived.Test.YthiibpabdkkknaaDoorNodeAwake
import Derived.Test.YthiibpabdkkknaaDoorNodeRForm
namespace Go.Proofs.YthiibpabdkkknaaDoor
open Go Go.RowKit
set_option linter.unusedVariables false
set_option linter.unusedSimpArgs false

theorem Form.mvOk {l : List Nd} (h : Form l) (ht : Txt l) (hlen : l.length ≤ 1073741823) {d : Int} (h1 : -1073741824 ≤ d) (h2 : d ≤ 1073741824) : ∀ n ∈ l, MvOk d n := fun n hn => by
  obtain ⟨i, hi, e⟩ := List.mem_iff_getElem.1 hn
  have ha : atN l i = n := by unfold atN; rw [List.getD_eq_getElem?_getD, List.getElem?_eq_getElem hi]; exact e
  have := (h.2.1 i hi).mvOk (by omega) (txt_at ht i) h1 h2
  rwa [ha] at this
theorem txt_sub {l : List Nd} (ht : Txt l) {i : Nat} (hi : i < l.length) : Txt (subL l i) := fun n hn => by
  unfold subL at hn
  obtain ⟨m, hm, rfl⟩ := List.mem_map.1 hn
  have hle := firstP_le l i
  obtain ⟨j, _, _, rfl⟩ := mem_seg (by omega) hm
  have := txt_at ht j
  have e : ∀ (k : Int) (n : Nd), (mvN k n).text = n.text := fun k n => by unfold mvN; (repeat' split) <;> rfl
  rw [e]; exact this
theorem few_Txt {l : List Nd} (h : fewB l = true) : Txt l := fun n hn => by have := (few_txt h).2 n hn; omega
theorem IsD.pair {l m : List Nd} {u v : Value} {w : World} (h : IsD l u w) (k : IsD m v w) (kind : Int) (hp1 : 0 < l.length) (hp2 : 0 < m.length) (hl1 : l.length ≤ 536870912) (hl2 : m.length ≤ 536870910) (hok1 : ∀ n ∈ l, MvOk 0 n) (hok2 : ∀ n ∈ m, MvOk (l.length : Int) n) :
    Calls Tryd.prog 41 #[.int .i64 kind, u, v] w (DPost w (pairL kind l m)) := by
  obtain ⟨A, c, _, rfl, hr⟩ := h
  obtain ⟨B, d, _, rfl, hs⟩ := k
  exact pair_any kind l m A B c d hp1 hp2 hl1 hl2 hok1 hok2 w hr hs
theorem IsD.wrap {l : List Nd} {u : Value} {w : World} (h : IsD l u w) (kind lo hi : Int) (hp1 : 0 < l.length) (hl1 : l.length ≤ 536870912) (hok1 : ∀ n ∈ l, MvOk 0 n) :
    Calls Tryd.prog 42 #[.int .i64 kind, .int .i64 lo, .int .i64 hi, u] w (DPost w (wrapL kind lo hi l)) := by
  obtain ⟨A, c, _, rfl, hr⟩ := h
  exact wrap_any kind lo hi l A c hp1 hl1 hok1 w hr
structure NpS (w0 : World) (A : Option Addr) (l : List Nd) (c : Nat) (w : World) : Prop where
  fst : FstS w0 A l c w
  u8 : U8T w
theorem NpS.later {w0 w w' : World} {A : Option Addr} {l : List Nd} {c : Nat} (h : NpS w0 A l c w) (hb : Below w.heap.size w w') : NpS w0 A l c w' := ⟨h.fst.later hb, h.u8.later hb⟩
structure NqS (w0 : World) (A : Option Addr) (l : List Nd) (c bx by_ : Nat) (B : Option Addr) (k : Nat) (e : Nat) (m : List Nd) (n : Nd) (w : World) : Prop where
  s : NpS w0 A l c w
  x : Blk w bx #[.slice B k e] 55
  r : NRow w B m
  y : Blk w by_ (ndC n) 66
theorem NqS.later {w0 w w' : World} {A : Option Addr} {l : List Nd} {c bx by_ : Nat} {B : Option Addr} {k e : Nat} {m : List Nd} {n : Nd} (h : NqS w0 A l c bx by_ B k e m n w) (hb : Below w.heap.size w w') : NqS w0 A l c bx by_ B k e m n w' := ⟨h.s.later hb, h.x.later hb, h.r.later hb, h.y.later hb⟩
def ni (i : Nat) : Int := (i : Int)
set_option maxHeartbeats 64000000 in
set_option maxRecDepth 1000000 in
theorem nodeparts_walk (l : List Nd) (A : Option Addr) (c q : Nat) (hq : q < 65536) (hc2 : l.length ≤ c) (hl : l.length ≤ 9223372036854775807) (htx : Txt l) (w : World) (hrow : NRow w A l) (hT : U8T w) :
    Calls Tryd.prog 11 #[.agg #[.slice A l.length c], .int .u16 (q : Int)] w (Ans w (.bool true)) := by
  have HB := (Below.refl w.heap.size w).alloc (Nat.le_refl _) (.cells #[.slice A l.length c] 55)
  have HS0 : Hid (NpS w A l c (w.alloc (.cells #[.slice A l.length c] 55))) := ⟨⟨HB, hrow.later HB, Blk.new _ _ _⟩, hT.later HB⟩
  have HTX := Lib.hid htx
  clear hrow hT HB htx
  go_enter Tryd.func11, Tryd.ntmps11
  go_upto_region 1 with (fail)
  generalize w.alloc (.cells #[.slice A l.length c] 55) = w1 at *
  have e0 := HS0.out.fst.box.cell 0
  simp at e0
  go_wp2_with fail
  refine (awake4_any _ HS0.out.u8).mono ?_; rintro e w2 ⟨rfl, hb2⟩
  have HS2 := Lib.hid (HS0.out.later hb2)
  clear hb2 e0 HS0
  have e0 := HS2.out.fst.box.cell 0
  simp at e0
  have HF := Lib.hid (few_any l A c hl HTX.out _ HS2.out.fst.row)
  cases hf : fewB l with
  | false =>
    rw [hf] at HF
    clear hf
    go_wp2_with fail
    refine HF.out.mono ?_; rintro e w3 ⟨rfl, hb3⟩
    have HS3 := Lib.hid (HS2.out.later hb3)
    clear hb3 e0
    go_wp2_with fail
    refine (awake4_any _ HS3.out.u8).mono ?_; rintro e w4 ⟨rfl, hb4⟩
    have HS4 := Lib.hid (HS3.out.later hb4)
    clear hb4
    go_wp2
    go_ret
    exact ⟨rfl, HS4.out.fst.bel⟩
  | true =>
    rw [hf] at HF
    have HFW := Lib.hid (few_txt hf)
    have hlen : l.length ≤ 100 := HFW.out.1
    clear hf
    go_wp2_with fail
    refine HF.out.mono ?_; rintro e w3 ⟨rfl, hb3⟩
    have HS3 := Lib.hid (HS2.out.later hb3)
    clear hb3 e0 HS2 HF
    have e0 := HS3.out.fst.box.cell 0
    simp at e0
    have HF := Lib.hid (refform_any l A c (by omega) HTX.out _ HS3.out.fst.row)
    cases hf : formB l with
    | false =>
      rw [hf] at HF
      clear hf
      go_wp2_with fail
      refine HF.out.mono ?_; rintro e w4 ⟨rfl, hb4⟩
      have HS4 := Lib.hid (HS3.out.later hb4)
      clear hb4 e0
      go_wp2_with fail
      refine (awake4_any _ HS4.out.u8).mono ?_; rintro e w5 ⟨rfl, hb5⟩
      have HS5 := Lib.hid (HS4.out.later hb5)
      clear hb5
      go_wp2
      go_ret
      exact ⟨rfl, HS5.out.fst.bel⟩
    | true =>
      rw [hf] at HF
      have HFO := Lib.hid ((formB_iff l).1 hf)
      clear hf
      go_wp2_with fail
      refine HF.out.mono ?_; rintro e w4 ⟨rfl, hb4⟩
      have HS4 := Lib.hid (HS3.out.later hb4)
      clear hb4 e0 HS3 HF
      have e0 := HS4.out.fst.box.cell 0
      simp at e0
      have hpos := HFO.out.1
      have hposz : (0 : Int) < (l.length : Int) := by omega
      have hne : ((l.length : Int) == 0) = false := by rw [beq_eq_false_iff_ne]; omega
      have hmod : (q : Int) % (l.length : Int) = ((q % l.length : Nat) : Int) := by omega
      have hil : q % l.length < l.length := Nat.mod_lt _ hpos
      go_upto_region 4 with (fail)
      generalize hii : q % l.length = i at *
      rw [hmod]
      clear hii hmod hne hposz
      have HSUBC := Lib.hid (sub_any l A c i hc2 hil (by omega) (HFO.out.okTo hil) HTX.out _ HS4.out.fst.row)
      go_wp2_with fail
      refine HSUBC.out.mono ?_; intro e w5 hp; obtain ⟨s, rfl, ho, hb5⟩ := hp
      obtain ⟨B, cs, hcs, hvs, hrs⟩ := ho.isD
      obtain rfl : s = .slice B (subL l i).length cs := by simpa using hvs
      have HS5 := Lib.hid (HS4.out.later hb5)
      clear hb5 e0 HS4 ho hvs HSUBC
      go_upto_region 5 with (fail)
      have hb6 := (Below.refl w5.heap.size w5).alloc (Nat.le_refl _) (.cells #[.slice B (subL l i).length cs] 55)
      have HS6 := Lib.hid (HS5.out.later hb6)
      have HR6 := Lib.hid (hrs.later hb6)
      have HX6 := Lib.hid (Blk.new w5 #[.slice B (subL l i).length cs] 55)
      clear hb6 hrs
      generalize w5.alloc (.cells #[.slice B (subL l i).length cs] 55) = w6 at *
      generalize w5.heap.size = bx at *
      have e0 := HS6.out.fst.box.cell 0
      simp at e0
      have hiz : (i : Int) < (l.length : Int) := by omega
      obtain ⟨ba, oa, rfl, -, -⟩ := HS6.out.fst.row i hil
      have g : At10 w6 ba (oa + i * 10) (l.getD i nd0) := HS6.out.fst.row.at hil rfl
      have hat : atN l i = l.getD i nd0 := rfl
      have HAT := Lib.hid hat
      clear hat
      generalize l.getD i nd0 = n at *
      unfold At10 at g
      obtain ⟨g0, g1, g2, g3, g4, g5, g6, g7, g8, g9⟩ := g
      go_upto_region 6 with (fail)
      have hb7 := (Below.refl w6.heap.size w6).alloc (Nat.le_refl _) (.cells (ndC n) 66)
      obtain ⟨m, hm⟩ : ∃ m, m = subL l i := ⟨_, rfl⟩
      have HM := Lib.hid hm
      rw [← hm] at HX6 HR6
      have HQ := Lib.hid (show NqS w (some ⟨ba, oa, none⟩) l c bx w6.heap.size B m.length cs m n _ from ⟨HS6.out.later hb7, HX6.out.later hb7, HR6.out.later hb7, Blk.new w6 (ndC n) 66⟩)
      rw [← hm]
      have HCS : Hid (m.length ≤ cs) := by unfold Hid; rw [HM.out]; exact hcs
      clear hb7 hm g0 g1 g2 g3 g4 g5 g6 g7 g8 g9 e0 hcs HS6 HX6 HR6 HS5
      unfold ndC at HQ
      generalize w6.alloc (.cells #[.int .i64 n.kind, .int .i64 n.a, .int .i64 n.b, .int .i64 n.lo, .int .i64 n.hi, .int .u64 (wd n.cls 0), .int .u64 (wd n.cls 1), .int .u64 (wd n.cls 2), .int .u64 (wd n.cls 3), .string (bs n.text)] 66) = w7 at *
      generalize w6.heap.size = bn at *
      have HML : Hid (m.length = i + 1 - firstP l i) := by unfold Hid; rw [HM.out]; exact subL_length hil
      have HFI := Lib.hid (firstP_le l i)
      have FF : Hid (∀ w', NqS w (some ⟨ba, oa, none⟩) l c bx bn B m.length cs m n w' → Calls Tryd.prog 33 #[.agg #[.slice B m.length cs]] w' (Ans w' (.bool true))) := fun w' h => by
        have := form_any m B cs (by rw [HML.out]; omega) (by rw [HM.out]; exact txt_sub HTX.out hil) w' h.r h.s.u8
        rwa [formB_eq (by rw [HM.out]; exact sub_form hil (HFO.out.okTo hil))] at this
      have FI : Hid (∀ w', NqS w (some ⟨ba, oa, none⟩) l c bx bn B m.length cs m n w' → Calls Tryd.prog 37 #[.agg #[.slice (some ⟨ba, oa, none⟩) l.length c], .int .i64 (i : Int)] w' (Ans w' (.int .i64 (firstP l i : Int)))) := fun w' h => first_any l _ c i hil w' h.s.fst.row
      have hmz : ((m.length : Int) != (i : Int) - (firstP l i : Int) + 1) = false := by
        rw [bne_eq_false_iff_eq]; have := HML.out; have := HFI.out; omega
      have hf0 : (0 : Int) ≤ (firstP l i : Int) := by omega
      have hf1 : (firstP l i : Int) ≤ (i : Int) := by have := HFI.out; omega
      generalize hff : firstP l i = f at *
      have HFF := Lib.hid hff
      clear hff
      refine wp_region_stable (S := (NqS w (some ⟨ba, oa, none⟩) l c bx bn B m.length cs m n)) (hSt := fun _ _ h hb => h.later hb) (plan := [[(6, none)], [(35, some 0)], [(36, some 1)], [(37, some 2)], [(6, none)], [(39, some 4)], [(40, some 5)], [(5, none)], [(2, none)], [(5, none)], [(43, some 8), (44, some 9)], [(42, some 7), (45, some 10)], [(46, some 11)], [(41, some 6), (47, some 12)], [(38, some 3), (48, some 13)]]) (by kernel_rfl) (by kernel_rfl) (by kernel_rfl) ?hS ?_
      rotate_left
      iterate 15 first
        | (refine chain_skip (by rfl) (by rfl) ?_)
        | (apply chain_want (by rfl)
           · intro act wx hS hr
             simp at hr
             have e0 := hS.s.fst.box.cell 0
             have e1 := hS.x.cell 0
             simp at e0 e1
             go_simp
             (try go_ints)
             first
               | ((with_reducible refine (FF.out _ hS).mono ?_); rintro e w' ⟨rfl, hb⟩; exact Done.mk hb)
               | ((with_reducible refine (FI.out _ hS).mono ?_); rintro e w' ⟨rfl, hb⟩; exact Done.mk hb)
               | exact Done.same
          )
      show ∀ w', _ → _
      intro wz hz
      simp [Act.put]
      case hS => exact HQ.out
      have HZ := Lib.hid hz
      clear hz HQ
      have HK := HFO.out.2.1 i hil
      rw [HAT.out] at HK
      have HOK : Hid (okN l i n) := HK
      clear HK
      have HLEN : Hid (l.length ≤ 100) := hlen
      have hcs := HOK.out.cs HAT.out
      have g := HZ.out.y
      obtain ⟨g0, g1, g2, g3, g4, g5, g6, g7, g8, g9⟩ := ten_cells g
      clear g hmz hf0 hf1
      obtain ⟨kk, na, nb, nlo, nhi, ncls, ntext⟩ := n
      simp only at g0 g1 g2 g3 g4 g5 g6 g7 g8 g9
      cases hcs with
      | leaf hk hf =>
        have hk2 : kk = 1 ∨ kk = 2 ∨ kk = 3 := hk
        have HSM : Hid (m = [⟨kk, na, nb, nlo, nhi, ncls, ntext⟩]) := by unfold Hid; rw [HM.out, sub_leaf hil (by rw [HAT.out]; exact hk) hf, HAT.out]
        have FL : Hid (∀ w', Calls Tryd.prog 45 #[.agg #[.int .i64 kk, .int .i64 na, .int .i64 nb, .int .i64 nlo, .int .i64 nhi, .int .u64 (wd ncls 0), .int .u64 (wd ncls 1), .int .u64 (wd ncls 2), .int .u64 (wd ncls 3), .string (bs ntext)]] w' (DPost w' [⟨kk, na, nb, nlo, nhi, ncls, ntext⟩])) := fun w' => by
          have ht := txt_at HTX.out i
          rw [HAT.out] at ht
          exact leaf_any ⟨kk, na, nb, nlo, nhi, ncls, ntext⟩ ⟨ht, fun hp => by unfold partK at hp; simp only at hp; omega, fun hp => by simp only at hp; omega⟩ w'
        clear hk hf
        rcases hk2 with rfl | rfl | rfl
        ·
          go_upto_region 12 with (fail)
          clear g0 g1 g2 g3 g4 g5 g6 g7 g8 g9
          refine wp_region_stable (S := (NqS w (some ⟨ba, oa, none⟩) l c bx bn B m.length cs m (⟨1, na, nb, nlo, nhi, ncls, ntext⟩ : Nd))) (hSt := fun _ _ h hb => h.later hb) (plan := [[(6, none)], [(7, none)], [(57, some 1)], [(56, some 0), (58, some 2)], [(59, some 3)]]) (by kernel_rfl) (by kernel_rfl) (by kernel_rfl) ?hS ?_
          rotate_left
          iterate 2 first
            | (refine chain_skip (by rfl) (by rfl) ?_)
            | (apply chain_want (by rfl)
               · intro act wx hS hr
                 simp at hr
                 have e1 := hS.x.cell 0
                 simp at e1
                 have g := hS.y
                 obtain ⟨g0, g1, g2, g3, g4, g5, g6, g7, g8, g9⟩ := ten_cells g
                 clear g
                 simp only at g0 g1 g2 g3 g4 g5 g6 g7 g8 g9
                 go_simp
                 (try go_ints)
                 first
                   | (obtain ⟨v, hr2, hv⟩ := hr.2; have hf := (show IsD m _ _ from ⟨B, cs, HCS.out, rfl, hS.r⟩).same hv (by rw [HSM.out]; simp) (by simp); rw [decide_eq_true HSM.out] at hf; simp only [hr.1, hr2, Option.getD_some]; refine hf.mono ?_; rintro e w' ⟨rfl, hb⟩; exact Done.mk (v := .bool true) hb)
                   | exact Done.same
              )
          (refine chain_rel (IsD [(⟨1, na, nb, nlo, nhi, ncls, ntext⟩ : Nd)]) (IsD.later _) (by rfl) ?_ ?_
           · intro act wx hS hr
             simp at hr
             have e1 := hS.x.cell 0
             simp at e1
             have g := hS.y
             obtain ⟨g0, g1, g2, g3, g4, g5, g6, g7, g8, g9⟩ := ten_cells g
             clear g
             simp only at g0 g1 g2 g3 g4 g5 g6 g7 g8 g9
             all_goals go_simp
             ((with_reducible refine (FL.out _).mono ?_); intro e w' hp; obtain ⟨s, rfl, ho, hb⟩ := hp; exact Done.rel hb ho.isD)
          )
          iterate 2 first
            | (refine chain_skip (by rfl) (by rfl) ?_)
            | (apply chain_want (by rfl)
               · intro act wx hS hr
                 simp at hr
                 have e1 := hS.x.cell 0
                 simp at e1
                 have g := hS.y
                 obtain ⟨g0, g1, g2, g3, g4, g5, g6, g7, g8, g9⟩ := ten_cells g
                 clear g
                 simp only at g0 g1 g2 g3 g4 g5 g6 g7 g8 g9
                 go_simp
                 (try go_ints)
                 first
                   | (obtain ⟨v, hr2, hv⟩ := hr.2; have hf := (show IsD m _ _ from ⟨B, cs, HCS.out, rfl, hS.r⟩).same hv (by rw [HSM.out]; simp) (by simp); rw [decide_eq_true HSM.out] at hf; simp only [hr.1, hr2, Option.getD_some]; refine hf.mono ?_; rintro e w' ⟨rfl, hb⟩; exact Done.mk (v := .bool true) hb)
                   | exact Done.same
              )
          show ∀ w', _ → _
          intro wy hy
          simp [Act.put]
          case hS => exact HZ.out
          have HY := Lib.hid hy
          clear hy
          intros
          go_wp2
          go_ret
          exact ⟨rfl, HY.out.s.fst.bel⟩
        ·
          go_upto_region 12 with (fail)
          clear g0 g1 g2 g3 g4 g5 g6 g7 g8 g9
          refine wp_region_stable (S := (NqS w (some ⟨ba, oa, none⟩) l c bx bn B m.length cs m (⟨2, na, nb, nlo, nhi, ncls, ntext⟩ : Nd))) (hSt := fun _ _ h hb => h.later hb) (plan := [[(6, none)], [(7, none)], [(57, some 1)], [(56, some 0), (58, some 2)], [(59, some 3)]]) (by kernel_rfl) (by kernel_rfl) (by kernel_rfl) ?hS ?_
          rotate_left
          iterate 2 first
            | (refine chain_skip (by rfl) (by rfl) ?_)
            | (apply chain_want (by rfl)
               · intro act wx hS hr
                 simp at hr
                 have e1 := hS.x.cell 0
                 simp at e1
                 have g := hS.y
                 obtain ⟨g0, g1, g2, g3, g4, g5, g6, g7, g8, g9⟩ := ten_cells g
                 clear g
                 simp only at g0 g1 g2 g3 g4 g5 g6 g7 g8 g9
                 go_simp
                 (try go_ints)
                 first
                   | (obtain ⟨v, hr2, hv⟩ := hr.2; have hf := (show IsD m _ _ from ⟨B, cs, HCS.out, rfl, hS.r⟩).same hv (by rw [HSM.out]; simp) (by simp); rw [decide_eq_true HSM.out] at hf; simp only [hr.1, hr2, Option.getD_some]; refine hf.mono ?_; rintro e w' ⟨rfl, hb⟩; exact Done.mk (v := .bool true) hb)
                   | exact Done.same
              )
          (refine chain_rel (IsD [(⟨2, na, nb, nlo, nhi, ncls, ntext⟩ : Nd)]) (IsD.later _) (by rfl) ?_ ?_
           · intro act wx hS hr
             simp at hr
             have e1 := hS.x.cell 0
             simp at e1
             have g := hS.y
             obtain ⟨g0, g1, g2, g3, g4, g5, g6, g7, g8, g9⟩ := ten_cells g
             clear g
             simp only at g0 g1 g2 g3 g4 g5 g6 g7 g8 g9
             all_goals go_simp
             ((with_reducible refine (FL.out _).mono ?_); intro e w' hp; obtain ⟨s, rfl, ho, hb⟩ := hp; exact Done.rel hb ho.isD)
          )
          iterate 2 first
            | (refine chain_skip (by rfl) (by rfl) ?_)
            | (apply chain_want (by rfl)
               · intro act wx hS hr
                 simp at hr
                 have e1 := hS.x.cell 0
                 simp at e1
                 have g := hS.y
                 obtain ⟨g0, g1, g2, g3, g4, g5, g6, g7, g8, g9⟩ := ten_cells g
                 clear g
                 simp only at g0 g1 g2 g3 g4 g5 g6 g7 g8 g9
                 go_simp
                 (try go_ints)
                 first
                   | (obtain ⟨v, hr2, hv⟩ := hr.2; have hf := (show IsD m _ _ from ⟨B, cs, HCS.out, rfl, hS.r⟩).same hv (by rw [HSM.out]; simp) (by simp); rw [decide_eq_true HSM.out] at hf; simp only [hr.1, hr2, Option.getD_some]; refine hf.mono ?_; rintro e w' ⟨rfl, hb⟩; exact Done.mk (v := .bool true) hb)
                   | exact Done.same
              )
          show ∀ w', _ → _
          intro wy hy
          simp [Act.put]
          case hS => exact HZ.out
          have HY := Lib.hid hy
          clear hy
          intros
          go_wp2
          go_ret
          exact ⟨rfl, HY.out.s.fst.bel⟩
        ·
          go_upto_region 12 with (fail)
          clear g0 g1 g2 g3 g4 g5 g6 g7 g8 g9
          refine wp_region_stable (S := (NqS w (some ⟨ba, oa, none⟩) l c bx bn B m.length cs m (⟨3, na, nb, nlo, nhi, ncls, ntext⟩ : Nd))) (hSt := fun _ _ h hb => h.later hb) (plan := [[(6, none)], [(7, none)], [(57, some 1)], [(56, some 0), (58, some 2)], [(59, some 3)]]) (by kernel_rfl) (by kernel_rfl) (by kernel_rfl) ?hS ?_
          rotate_left
          iterate 2 first
            | (refine chain_skip (by rfl) (by rfl) ?_)
            | (apply chain_want (by rfl)
               · intro act wx hS hr
                 simp at hr
                 have e1 := hS.x.cell 0
                 simp at e1
                 have g := hS.y
                 obtain ⟨g0, g1, g2, g3, g4, g5, g6, g7, g8, g9⟩ := ten_cells g
                 clear g
                 simp only at g0 g1 g2 g3 g4 g5 g6 g7 g8 g9
                 go_simp
                 (try go_ints)
                 first
                   | (obtain ⟨v, hr2, hv⟩ := hr.2; have hf := (show IsD m _ _ from ⟨B, cs, HCS.out, rfl, hS.r⟩).same hv (by rw [HSM.out]; simp) (by simp); rw [decide_eq_true HSM.out] at hf; simp only [hr.1, hr2, Option.getD_some]; refine hf.mono ?_; rintro e w' ⟨rfl, hb⟩; exact Done.mk (v := .bool true) hb)
                   | exact Done.same
              )
          (refine chain_rel (IsD [(⟨3, na, nb, nlo, nhi, ncls, ntext⟩ : Nd)]) (IsD.later _) (by rfl) ?_ ?_
           · intro act wx hS hr
             simp at hr
             have e1 := hS.x.cell 0
             simp at e1
             have g := hS.y
             obtain ⟨g0, g1, g2, g3, g4, g5, g6, g7, g8, g9⟩ := ten_cells g
             clear g
             simp only at g0 g1 g2 g3 g4 g5 g6 g7 g8 g9
             all_goals go_simp
             ((with_reducible refine (FL.out _).mono ?_); intro e w' hp; obtain ⟨s, rfl, ho, hb⟩ := hp; exact Done.rel hb ho.isD)
          )
          iterate 2 first
            | (refine chain_skip (by rfl) (by rfl) ?_)
            | (apply chain_want (by rfl)
               · intro act wx hS hr
                 simp at hr
                 have e1 := hS.x.cell 0
                 simp at e1
                 have g := hS.y
                 obtain ⟨g0, g1, g2, g3, g4, g5, g6, g7, g8, g9⟩ := ten_cells g
                 clear g
                 simp only at g0 g1 g2 g3 g4 g5 g6 g7 g8 g9
                 go_simp
                 (try go_ints)
                 first
                   | (obtain ⟨v, hr2, hv⟩ := hr.2; have hf := (show IsD m _ _ from ⟨B, cs, HCS.out, rfl, hS.r⟩).same hv (by rw [HSM.out]; simp) (by simp); rw [decide_eq_true HSM.out] at hf; simp only [hr.1, hr2, Option.getD_some]; refine hf.mono ?_; rintro e w' ⟨rfl, hb⟩; exact Done.mk (v := .bool true) hb)
                   | exact Done.same
              )
          show ∀ w', _ → _
          intro wy hy
          simp [Act.put]
          case hS => exact HZ.out
          have HY := Lib.hid hy
          clear hy
          intros
          go_wp2
          go_ret
          exact ⟨rfl, HY.out.s.fst.bel⟩
      | one hk hi ha hb h7 hr hc hf =>
          obtain ⟨j, hj⟩ : ∃ j, i = j + 1 := ⟨i - 1, by omega⟩
          have hk2 : 6 ≤ kk ∧ kk ≤ 9 := hk
          have hij : i - 1 = j := by omega
          have hna : na = (j : Int) := by have : na = (i : Int) - 1 := ha; omega
          subst hna
          have hjl : j < l.length := by omega
          have hok := HFO.out.okTo hjl
          have HFJ : Hid (firstP l j = f) := by unfold Hid; rw [← HFF.out, hf, hij]
          have hs := sub_one hil (HFO.out.okTo hil) (by rw [HAT.out]; exact hk)
          rw [HAT.out, hij] at hs
          have HSM : Hid (m = wrapL kk nlo nhi (subL l j)) := by unfold Hid; rw [HM.out]; exact hs.2.2.2
          have FJ : Hid (∀ w', NqS w (some ⟨ba, oa, none⟩) l c bx bn B m.length cs m (⟨kk, (j : Int), nb, nlo, nhi, ncls, ntext⟩ : Nd) w' → Calls Tryd.prog 37 #[.agg #[.slice (some ⟨ba, oa, none⟩) l.length c], .int .i64 (j : Int)] w' (Ans w' (.int .i64 (f : Int)))) := fun w' h => by
            have := first_any l _ c j hjl w' h.s.fst.row
            rwa [HFJ.out] at this
          have SJ : Hid (∀ w', NqS w (some ⟨ba, oa, none⟩) l c bx bn B m.length cs m (⟨kk, (j : Int), nb, nlo, nhi, ncls, ntext⟩ : Nd) w' → Calls Tryd.prog 39 #[.agg #[.slice (some ⟨ba, oa, none⟩) l.length c], .int .i64 (j : Int)] w' (DPost w' (subL l j))) := fun w' h => sub_any l _ c j hc2 hjl (by omega) hok HTX.out w' h.s.fst.row
          have hsl := subL_length hjl
          have hfj := firstP_le l j
          have HW : Hid (∀ v w', IsD (subL l j) v w' → Calls Tryd.prog 42 #[.int .i64 kk, .int .i64 nlo, .int .i64 nhi, v] w' (DPost w' (wrapL kk nlo nhi (subL l j)))) := fun v w' h => h.wrap kk nlo nhi (by omega) (by omega) ((sub_form hjl hok).mvOk (txt_sub HTX.out hjl) (by omega) (by omega) (by omega))
          have HWL : Hid ((wrapL kk nlo nhi (subL l j)).length ≤ 1073741824) := by unfold Hid wrapL; rw [List.length_append, hsl]; simp; omega
          have z1 : (kk == 1) = false := by rw [beq_eq_false_iff_ne]; omega
          have z2 : (kk == 2) = false := by rw [beq_eq_false_iff_ne]; omega
          have z3 : (kk == 3) = false := by rw [beq_eq_false_iff_ne]; omega
          have z4 : (kk == 4) = false := by rw [beq_eq_false_iff_ne]; omega
          have z5 : (kk == 5) = false := by rw [beq_eq_false_iff_ne]; omega
          clear hk hi ha hb h7 hr hc hf hs hok hk2 hsl hfj hj hij
          generalize wrapL kk nlo nhi (subL l j) = W1 at *
          generalize subL l j = M1 at *
          go_upto_region 16 with (fail)
          clear g0 g1 g2 g3 g4 g5 g6 g7 g8 g9
          refine wp_region_stable (S := (NqS w (some ⟨ba, oa, none⟩) l c bx bn B m.length cs m (⟨kk, (j : Int), nb, nlo, nhi, ncls, ntext⟩ : Nd))) (hSt := fun _ _ h hb => h.later hb) (plan := [[(2, none)], [(7, none)], [(87, some 1)], [(86, some 0), (88, some 2)], [(2, none)], [(5, none)], [(90, some 4), (91, some 5)], [(89, some 3), (92, some 6)], [(93, some 7)], [(6, none)], [(7, none)], [(96, some 10)], [(7, none)], [(98, some 12)], [(7, none)], [(100, some 14)], [(2, none)], [(7, none)], [(103, some 17)], [(102, some 16), (104, some 18)], [(97, some 11), (99, some 13), (101, some 15), (105, some 19)], [(95, some 9), (106, some 20)], [(94, some 8), (107, some 21)], [(108, some 22)]]) (by kernel_rfl) (by kernel_rfl) (by kernel_rfl) ?hS ?_
          rotate_left
          iterate 19 first
            | (refine chain_skip (by rfl) (by rfl) ?_)
            | (apply chain_want (by rfl)
               · intro act wx hS hr
                 simp at hr
                 have e0 := hS.s.fst.box.cell 0
                 have e1 := hS.x.cell 0
                 simp at e0 e1
                 have g := hS.y
                 obtain ⟨g0, g1, g2, g3, g4, g5, g6, g7, g8, g9⟩ := ten_cells g
                 clear g
                 simp only at g0 g1 g2 g3 g4 g5 g6 g7 g8 g9
                 go_simp
                 (try go_ints)
                 first
                   | ((with_reducible refine (FJ.out _ hS).mono ?_); rintro e w' ⟨rfl, hb⟩; exact Done.mk hb)
                   | ((with_reducible refine (FI.out _ hS).mono ?_); rintro e w' ⟨rfl, hb⟩; exact Done.mk hb)
                   | (obtain ⟨v, hr2, hv⟩ := hr.2; have hf := (show IsD m _ _ from ⟨B, cs, HCS.out, rfl, hS.r⟩).same hv (by rw [HML.out]; have := HLEN.out; omega) HWL.out; rw [decide_eq_true HSM.out] at hf; simp only [hr.1, hr2, Option.getD_some]; refine hf.mono ?_; rintro e w' ⟨rfl, hb⟩; exact Done.mk (v := .bool true) hb)
                   | exact Done.same
              )
          (refine chain_rel (IsD M1) (IsD.later _) (by rfl) ?_ ?_
           · intro act wx hS hr
             simp at hr
             have e0 := hS.s.fst.box.cell 0
             have e1 := hS.x.cell 0
             simp at e0 e1
             have g := hS.y
             obtain ⟨g0, g1, g2, g3, g4, g5, g6, g7, g8, g9⟩ := ten_cells g
             clear g
             simp only at g0 g1 g2 g3 g4 g5 g6 g7 g8 g9
             all_goals go_simp
             ((with_reducible refine (SJ.out _ hS).mono ?_); intro e w' hp; obtain ⟨s, rfl, ho, hb⟩ := hp; exact Done.rel hb ho.isD)
          )
          (refine chain_rel (IsD W1) (IsD.later _) (by rfl) ?_ ?_
           · intro act wx hS hr
             simp at hr
             have e0 := hS.s.fst.box.cell 0
             have e1 := hS.x.cell 0
             simp at e0 e1
             have g := hS.y
             obtain ⟨g0, g1, g2, g3, g4, g5, g6, g7, g8, g9⟩ := ten_cells g
             clear g
             simp only at g0 g1 g2 g3 g4 g5 g6 g7 g8 g9
             all_goals go_simp
             obtain ⟨v, hr2, hv⟩ := hr.2.2.2
             simp only [hr.1, hr.2.1, hr.2.2.1, hr2, Option.getD_some]
             refine (HW.out _ _ hv).mono ?_
             intro e w' hp
             obtain ⟨s, rfl, ho, hb⟩ := hp
             exact Done.rel hb ho.isD
          )
          iterate 3 first
            | (refine chain_skip (by rfl) (by rfl) ?_)
            | (apply chain_want (by rfl)
               · intro act wx hS hr
                 simp at hr
                 have e0 := hS.s.fst.box.cell 0
                 have e1 := hS.x.cell 0
                 simp at e0 e1
                 have g := hS.y
                 obtain ⟨g0, g1, g2, g3, g4, g5, g6, g7, g8, g9⟩ := ten_cells g
                 clear g
                 simp only at g0 g1 g2 g3 g4 g5 g6 g7 g8 g9
                 go_simp
                 (try go_ints)
                 first
                   | ((with_reducible refine (FJ.out _ hS).mono ?_); rintro e w' ⟨rfl, hb⟩; exact Done.mk hb)
                   | ((with_reducible refine (FI.out _ hS).mono ?_); rintro e w' ⟨rfl, hb⟩; exact Done.mk hb)
                   | (obtain ⟨v, hr2, hv⟩ := hr.2; have hf := (show IsD m _ _ from ⟨B, cs, HCS.out, rfl, hS.r⟩).same hv (by rw [HML.out]; have := HLEN.out; omega) HWL.out; rw [decide_eq_true HSM.out] at hf; simp only [hr.1, hr2, Option.getD_some]; refine hf.mono ?_; rintro e w' ⟨rfl, hb⟩; exact Done.mk (v := .bool true) hb)
                   | exact Done.same
              )
          show ∀ w', _ → _
          intro wy hy
          simp [Act.put]
          case hS => exact HZ.out
          have HY := Lib.hid hy
          clear hy
          intros
          go_wp2
          go_ret
          exact ⟨rfl, HY.out.s.fst.bel⟩
      | two hk hi hb ha hf0 hl2 hc hf =>
          have hs := sub_two hil (HFO.out.okTo hil) (by rw [HAT.out]; exact hk)
          rw [HAT.out] at hs
          simp only at hs
          obtain ⟨j, hj⟩ : ∃ j, i = j + 1 := ⟨i - 1, by omega⟩
          have hij : i - 1 = j := by omega
          rw [hij] at hs
          obtain ⟨s1, s2, s3, s4, s5, s6⟩ := hs
          obtain ⟨p, rfl⟩ : ∃ p : Nat, na = (p : Int) := ⟨na.toNat, by omega⟩
          have hnb : nb = (j : Int) := by omega
          subst hnb
          rw [Int.toNat_natCast] at s5 s6
          have hk2 : kk = 4 ∨ kk = 5 := hk
          have hjl : j < l.length := by omega
          have hpl : p < l.length := by omega
          have hokj := HFO.out.okTo hjl
          have hokp := HFO.out.okTo hpl
          have HSM : Hid (m = pairL kk (subL l p) (subL l j)) := by unfold Hid; rw [HM.out]; exact s6
          have FJ : Hid (∀ w', NqS w (some ⟨ba, oa, none⟩) l c bx bn B m.length cs m (⟨kk, (p : Int), (j : Int), nlo, nhi, ncls, ntext⟩ : Nd) w' → Calls Tryd.prog 37 #[.agg #[.slice (some ⟨ba, oa, none⟩) l.length c], .int .i64 (j : Int)] w' (Ans w' (.int .i64 ((p : Int) + 1)))) := fun w' h => by
            have := first_any l _ c j hjl w' h.s.fst.row
            rwa [s3] at this
          have SJ : Hid (∀ w', NqS w (some ⟨ba, oa, none⟩) l c bx bn B m.length cs m (⟨kk, (p : Int), (j : Int), nlo, nhi, ncls, ntext⟩ : Nd) w' → Calls Tryd.prog 39 #[.agg #[.slice (some ⟨ba, oa, none⟩) l.length c], .int .i64 (j : Int)] w' (DPost w' (subL l j))) := fun w' h => sub_any l _ c j hc2 hjl (by omega) hokj HTX.out w' h.s.fst.row
          have SP : Hid (∀ w', NqS w (some ⟨ba, oa, none⟩) l c bx bn B m.length cs m (⟨kk, (p : Int), (j : Int), nlo, nhi, ncls, ntext⟩ : Nd) w' → Calls Tryd.prog 39 #[.agg #[.slice (some ⟨ba, oa, none⟩) l.length c], .int .i64 (p : Int)] w' (DPost w' (subL l p))) := fun w' h => sub_any l _ c p hc2 hpl (by omega) hokp HTX.out w' h.s.fst.row
          have hsj := subL_length hjl
          have hsp := subL_length hpl
          have hfj := firstP_le l j
          have hfp := firstP_le l p
          have HW : Hid (∀ u v w', IsD (subL l p) u w' → IsD (subL l j) v w' → Calls Tryd.prog 41 #[.int .i64 kk, u, v] w' (DPost w' (pairL kk (subL l p) (subL l j)))) := fun u v w' h k => h.pair k kk (by omega) (by omega) (by omega) (by omega) ((sub_form hpl hokp).mvOk (txt_sub HTX.out hpl) (by omega) (by omega) (by omega)) ((sub_form hjl hokj).mvOk (txt_sub HTX.out hjl) (by omega) (by omega) (by omega))
          have HWL : Hid ((pairL kk (subL l p) (subL l j)).length ≤ 1073741824) := by unfold Hid pairL; simp [hsj, hsp]; omega
          have hp100 : (p : Int) + 1 ≤ 1000 := by omega
          have hp0 : (0 : Int) ≤ (p : Int) + 1 := by omega
          have z1 : (kk == 1) = false := by rw [beq_eq_false_iff_ne]; omega
          have z2 : (kk == 2) = false := by rw [beq_eq_false_iff_ne]; omega
          have z3 : (kk == 3) = false := by rw [beq_eq_false_iff_ne]; omega
          clear hk hi hb ha hf0 hl2 hc hf s1 s2 s3 s4 s5 s6 hokj hokp hsj hsp hfj hfp hj hij hjl hpl
          generalize pairL kk (subL l p) (subL l j) = W1 at *
          generalize subL l j = M1 at *
          generalize subL l p = M2 at *
          rcases hk2 with rfl | rfl
          ·
            go_upto_region 15 with (fail)
            clear g0 g1 g2 g3 g4 g5 g6 g7 g8 g9
            refine wp_region_stable (S := (NqS w (some ⟨ba, oa, none⟩) l c bx bn B m.length cs m (⟨4, (p : Int), (j : Int), nlo, nhi, ncls, ntext⟩ : Nd))) (hSt := fun _ _ h hb => h.later hb) (plan := [[(2, none)], [(7, none)], [(64, some 1)], [(63, some 0), (65, some 2)], [(7, none)], [(67, some 4)], [(68, some 5)], [(66, some 3), (69, some 6)], [(70, some 7)], [(6, none)], [(7, none)], [(73, some 10)], [(2, none)], [(7, none)], [(76, some 13)], [(75, some 12), (77, some 14)], [(2, none)], [(7, none)], [(80, some 17)], [(79, some 16), (81, some 18)], [(74, some 11), (78, some 15), (82, some 19)], [(72, some 9), (83, some 20)], [(71, some 8), (84, some 21)], [(85, some 22)]]) (by kernel_rfl) (by kernel_rfl) (by kernel_rfl) ?hS ?_
            rotate_left
            iterate 15 first
              | (refine chain_skip (by rfl) (by rfl) ?_)
              | (apply chain_want (by rfl)
                 · intro act wx hS hr
                   simp at hr
                   have e0 := hS.s.fst.box.cell 0
                   have e1 := hS.x.cell 0
                   simp at e0 e1
                   have g := hS.y
                   obtain ⟨g0, g1, g2, g3, g4, g5, g6, g7, g8, g9⟩ := ten_cells g
                   clear g
                   simp only at g0 g1 g2 g3 g4 g5 g6 g7 g8 g9
                   go_simp
                   (try go_ints)
                   first
                     | ((with_reducible refine (FJ.out _ hS).mono ?_); rintro e w' ⟨rfl, hb⟩; exact Done.mk hb)
                     | (obtain ⟨v, hr2, hv⟩ := hr.2; have hf := (show IsD m _ _ from ⟨B, cs, HCS.out, rfl, hS.r⟩).same hv (by rw [HML.out]; have := HLEN.out; omega) HWL.out; rw [decide_eq_true HSM.out] at hf; simp only [hr.1, hr2, Option.getD_some]; refine hf.mono ?_; rintro e w' ⟨rfl, hb⟩; exact Done.mk (v := .bool true) hb)
                     | exact Done.same
                )
            (refine chain_rel (IsD M2) (IsD.later _) (by rfl) ?_ ?_
             · intro act wx hS hr
               simp at hr
               have e0 := hS.s.fst.box.cell 0
               have e1 := hS.x.cell 0
               simp at e0 e1
               have g := hS.y
               obtain ⟨g0, g1, g2, g3, g4, g5, g6, g7, g8, g9⟩ := ten_cells g
               clear g
               simp only at g0 g1 g2 g3 g4 g5 g6 g7 g8 g9
               all_goals go_simp
               ((with_reducible refine (SP.out _ hS).mono ?_); intro e w' hp; obtain ⟨s, rfl, ho, hb⟩ := hp; exact Done.rel hb ho.isD)
            )
            iterate 3 first
              | (refine chain_skip (by rfl) (by rfl) ?_)
              | (apply chain_want (by rfl)
                 · intro act wx hS hr
                   simp at hr
                   have e0 := hS.s.fst.box.cell 0
                   have e1 := hS.x.cell 0
                   simp at e0 e1
                   have g := hS.y
                   obtain ⟨g0, g1, g2, g3, g4, g5, g6, g7, g8, g9⟩ := ten_cells g
                   clear g
                   simp only at g0 g1 g2 g3 g4 g5 g6 g7 g8 g9
                   go_simp
                   (try go_ints)
                   first
                     | ((with_reducible refine (FJ.out _ hS).mono ?_); rintro e w' ⟨rfl, hb⟩; exact Done.mk hb)
                     | (obtain ⟨v, hr2, hv⟩ := hr.2; have hf := (show IsD m _ _ from ⟨B, cs, HCS.out, rfl, hS.r⟩).same hv (by rw [HML.out]; have := HLEN.out; omega) HWL.out; rw [decide_eq_true HSM.out] at hf; simp only [hr.1, hr2, Option.getD_some]; refine hf.mono ?_; rintro e w' ⟨rfl, hb⟩; exact Done.mk (v := .bool true) hb)
                     | exact Done.same
                )
            (refine chain_rel (IsD M1) (IsD.later _) (by rfl) ?_ ?_
             · intro act wx hS hr
               simp at hr
               have e0 := hS.s.fst.box.cell 0
               have e1 := hS.x.cell 0
               simp at e0 e1
               have g := hS.y
               obtain ⟨g0, g1, g2, g3, g4, g5, g6, g7, g8, g9⟩ := ten_cells g
               clear g
               simp only at g0 g1 g2 g3 g4 g5 g6 g7 g8 g9
               all_goals go_simp
               ((with_reducible refine (SJ.out _ hS).mono ?_); intro e w' hp; obtain ⟨s, rfl, ho, hb⟩ := hp; exact Done.rel hb ho.isD)
            )
            (refine chain_rel (IsD W1) (IsD.later _) (by rfl) ?_ ?_
             · intro act wx hS hr
               simp at hr
               have e0 := hS.s.fst.box.cell 0
               have e1 := hS.x.cell 0
               simp at e0 e1
               have g := hS.y
               obtain ⟨g0, g1, g2, g3, g4, g5, g6, g7, g8, g9⟩ := ten_cells g
               clear g
               simp only at g0 g1 g2 g3 g4 g5 g6 g7 g8 g9
               all_goals go_simp
               obtain ⟨hr1, ⟨u, hr2, hu⟩, v, hr3, hv⟩ := hr
               simp only [hr1, hr2, hr3, Option.getD_some]
               refine (HW.out _ _ _ hu hv).mono ?_
               intro e w' hp
               obtain ⟨s, rfl, ho, hb⟩ := hp
               exact Done.rel hb ho.isD
            )
            iterate 3 first
              | (refine chain_skip (by rfl) (by rfl) ?_)
              | (apply chain_want (by rfl)
                 · intro act wx hS hr
                   simp at hr
                   have e0 := hS.s.fst.box.cell 0
                   have e1 := hS.x.cell 0
                   simp at e0 e1
                   have g := hS.y
                   obtain ⟨g0, g1, g2, g3, g4, g5, g6, g7, g8, g9⟩ := ten_cells g
                   clear g
                   simp only at g0 g1 g2 g3 g4 g5 g6 g7 g8 g9
                   go_simp
                   (try go_ints)
                   first
                     | ((with_reducible refine (FJ.out _ hS).mono ?_); rintro e w' ⟨rfl, hb⟩; exact Done.mk hb)
                     | (obtain ⟨v, hr2, hv⟩ := hr.2; have hf := (show IsD m _ _ from ⟨B, cs, HCS.out, rfl, hS.r⟩).same hv (by rw [HML.out]; have := HLEN.out; omega) HWL.out; rw [decide_eq_true HSM.out] at hf; simp only [hr.1, hr2, Option.getD_some]; refine hf.mono ?_; rintro e w' ⟨rfl, hb⟩; exact Done.mk (v := .bool true) hb)
                     | exact Done.same
                )
            show ∀ w', _ → _
            intro wy hy
            simp [Act.put]
            case hS => exact HZ.out
            have HY := Lib.hid hy
            clear hy
            intros
            go_wp2
            go_ret
            exact ⟨rfl, HY.out.s.fst.bel⟩
          ·
            go_upto_region 15 with (fail)
            clear g0 g1 g2 g3 g4 g5 g6 g7 g8 g9
            refine wp_region_stable (S := (NqS w (some ⟨ba, oa, none⟩) l c bx bn B m.length cs m (⟨5, (p : Int), (j : Int), nlo, nhi, ncls, ntext⟩ : Nd))) (hSt := fun _ _ h hb => h.later hb) (plan := [[(2, none)], [(7, none)], [(64, some 1)], [(63, some 0), (65, some 2)], [(7, none)], [(67, some 4)], [(68, some 5)], [(66, some 3), (69, some 6)], [(70, some 7)], [(6, none)], [(7, none)], [(73, some 10)], [(2, none)], [(7, none)], [(76, some 13)], [(75, some 12), (77, some 14)], [(2, none)], [(7, none)], [(80, some 17)], [(79, some 16), (81, some 18)], [(74, some 11), (78, some 15), (82, some 19)], [(72, some 9), (83, some 20)], [(71, some 8), (84, some 21)], [(85, some 22)]]) (by kernel_rfl) (by kernel_rfl) (by kernel_rfl) ?hS ?_
            rotate_left
            iterate 15 first
              | (refine chain_skip (by rfl) (by rfl) ?_)
              | (apply chain_want (by rfl)
                 · intro act wx hS hr
                   simp at hr
                   have e0 := hS.s.fst.box.cell 0
                   have e1 := hS.x.cell 0
                   simp at e0 e1
                   have g := hS.y
                   obtain ⟨g0, g1, g2, g3, g4, g5, g6, g7, g8, g9⟩ := ten_cells g
                   clear g
                   simp only at g0 g1 g2 g3 g4 g5 g6 g7 g8 g9
                   go_simp
                   (try go_ints)
                   first
                     | ((with_reducible refine (FJ.out _ hS).mono ?_); rintro e w' ⟨rfl, hb⟩; exact Done.mk hb)
                     | (obtain ⟨v, hr2, hv⟩ := hr.2; have hf := (show IsD m _ _ from ⟨B, cs, HCS.out, rfl, hS.r⟩).same hv (by rw [HML.out]; have := HLEN.out; omega) HWL.out; rw [decide_eq_true HSM.out] at hf; simp only [hr.1, hr2, Option.getD_some]; refine hf.mono ?_; rintro e w' ⟨rfl, hb⟩; exact Done.mk (v := .bool true) hb)
                     | exact Done.same
                )
            (refine chain_rel (IsD M2) (IsD.later _) (by rfl) ?_ ?_
             · intro act wx hS hr
               simp at hr
               have e0 := hS.s.fst.box.cell 0
               have e1 := hS.x.cell 0
               simp at e0 e1
               have g := hS.y
               obtain ⟨g0, g1, g2, g3, g4, g5, g6, g7, g8, g9⟩ := ten_cells g
               clear g
               simp only at g0 g1 g2 g3 g4 g5 g6 g7 g8 g9
               all_goals go_simp
               ((with_reducible refine (SP.out _ hS).mono ?_); intro e w' hp; obtain ⟨s, rfl, ho, hb⟩ := hp; exact Done.rel hb ho.isD)
            )
            iterate 3 first
              | (refine chain_skip (by rfl) (by rfl) ?_)
              | (apply chain_want (by rfl)
                 · intro act wx hS hr
                   simp at hr
                   have e0 := hS.s.fst.box.cell 0
                   have e1 := hS.x.cell 0
                   simp at e0 e1
                   have g := hS.y
                   obtain ⟨g0, g1, g2, g3, g4, g5, g6, g7, g8, g9⟩ := ten_cells g
                   clear g
                   simp only at g0 g1 g2 g3 g4 g5 g6 g7 g8 g9
                   go_simp
                   (try go_ints)
                   first
                     | ((with_reducible refine (FJ.out _ hS).mono ?_); rintro e w' ⟨rfl, hb⟩; exact Done.mk hb)
                     | (obtain ⟨v, hr2, hv⟩ := hr.2; have hf := (show IsD m _ _ from ⟨B, cs, HCS.out, rfl, hS.r⟩).same hv (by rw [HML.out]; have := HLEN.out; omega) HWL.out; rw [decide_eq_true HSM.out] at hf; simp only [hr.1, hr2, Option.getD_some]; refine hf.mono ?_; rintro e w' ⟨rfl, hb⟩; exact Done.mk (v := .bool true) hb)
                     | exact Done.same
                )
            (refine chain_rel (IsD M1) (IsD.later _) (by rfl) ?_ ?_
             · intro act wx hS hr
               simp at hr
               have e0 := hS.s.fst.box.cell 0
               have e1 := hS.x.cell 0
               simp at e0 e1
               have g := hS.y
               obtain ⟨g0, g1, g2, g3, g4, g5, g6, g7, g8, g9⟩ := ten_cells g
               clear g
               simp only at g0 g1 g2 g3 g4 g5 g6 g7 g8 g9
               all_goals go_simp
               ((with_reducible refine (SJ.out _ hS).mono ?_); intro e w' hp; obtain ⟨s, rfl, ho, hb⟩ := hp; exact Done.rel hb ho.isD)
            )
            (refine chain_rel (IsD W1) (IsD.later _) (by rfl) ?_ ?_
             · intro act wx hS hr
               simp at hr
               have e0 := hS.s.fst.box.cell 0
               have e1 := hS.x.cell 0
               simp at e0 e1
               have g := hS.y
               obtain ⟨g0, g1, g2, g3, g4, g5, g6, g7, g8, g9⟩ := ten_cells g
               clear g
               simp only at g0 g1 g2 g3 g4 g5 g6 g7 g8 g9
               all_goals go_simp
               obtain ⟨hr1, ⟨u, hr2, hu⟩, v, hr3, hv⟩ := hr
               simp only [hr1, hr2, hr3, Option.getD_some]
               refine (HW.out _ _ _ hu hv).mono ?_
               intro e w' hp
               obtain ⟨s, rfl, ho, hb⟩ := hp
               exact Done.rel hb ho.isD
            )
            iterate 3 first
              | (refine chain_skip (by rfl) (by rfl) ?_)
              | (apply chain_want (by rfl)
                 · intro act wx hS hr
                   simp at hr
                   have e0 := hS.s.fst.box.cell 0
                   have e1 := hS.x.cell 0
                   simp at e0 e1
                   have g := hS.y
                   obtain ⟨g0, g1, g2, g3, g4, g5, g6, g7, g8, g9⟩ := ten_cells g
                   clear g
                   simp only at g0 g1 g2 g3 g4 g5 g6 g7 g8 g9
                   go_simp
                   (try go_ints)
                   first
                     | ((with_reducible refine (FJ.out _ hS).mono ?_); rintro e w' ⟨rfl, hb⟩; exact Done.mk hb)
                     | (obtain ⟨v, hr2, hv⟩ := hr.2; have hf := (show IsD m _ _ from ⟨B, cs, HCS.out, rfl, hS.r⟩).same hv (by rw [HML.out]; have := HLEN.out; omega) HWL.out; rw [decide_eq_true HSM.out] at hf; simp only [hr.1, hr2, Option.getD_some]; refine hf.mono ?_; rintro e w' ⟨rfl, hb⟩; exact Done.mk (v := .bool true) hb)
                     | exact Done.same
                )
            show ∀ w', _ → _
            intro wy hy
            simp [Act.put]
            case hS => exact HZ.out
            have HY := Lib.hid hy
            clear hy
            intros
            go_wp2
            go_ret
            exact ⟨rfl, HY.out.s.fst.bel⟩
end Go.Proofs.YthiibpabdkkknaaDoor
