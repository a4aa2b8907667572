/- The statement ItemOrder of layer 13, walked. -/
import Derived.Test.YtnhcbldcfcibiaaM29
namespace Go.Proofs.Ytnhcbldcfcibiaa
open Go Go.RowKit
set_option linter.unusedVariables false
set_option linter.unusedSimpArgs false
set_option maxRecDepth 1000000
set_option maxHeartbeats 64000000

structure IoqS (w0 : World) (A B C : Option Addr) (a b c : List Itm) (x : Itm) (w : World) : Prop where
  bel : Below w0.heap.size w0 w
  bx : Blk w w0.heap.size (itV x) 36
  ra : ItRow w A a
  rb : ItRow w B b
  rc : ItRow w C c
theorem IoqS.later {w0 w w' : World} {A B C : Option Addr} {a b c : List Itm} {x : Itm} (h : IoqS w0 A B C a b c x w) (hb : Below w.heap.size w w') : IoqS w0 A B C a b c x w' :=
  ⟨h.bel.trans (hb.mono h.bel.size), h.bx.later hb, h.ra.later hb, h.rb.later hb, h.rc.later hb⟩
structure IoqB (N : Nat) (wE w0 : World) (A B C : Option Addr) (a b c : List Itm) (x : Itm) (w : World) : Prop where
  s : IoqS w0 A B C a b c x w
  le : N ≤ w.heap.size
  bel : Below N wE w
theorem IoqB.later {N : Nat} {wE w0 w w' : World} {A B C : Option Addr} {a b c : List Itm} {x : Itm} (h : IoqB N wE w0 A B C a b c x w) (hb : Below w.heap.size w w') : IoqB N wE w0 A B C a b c x w' := ⟨h.s.later hb, Nat.le_trans h.le hb.size, h.bel.trans (hb.mono h.le)⟩
theorem ItOk.snoc {a : List Itm} {x : Itm} (h : ItOk a) (hx : ItOk [x]) : ItOk (a ++ [x]) := fun y hy => by
  rcases List.mem_append.1 hy with h1 | h1
  · exact h y h1
  · exact hx y h1
structure IoqM (w0 : World) (A B C : Option Addr) (a b c : List Itm) (x : Itm) (M : Option Addr) (w : World) : Prop where
  s : IoqS w0 A B C a b c x w
  m : ItRow w M (a ++ [x])
theorem IoqM.later {w0 w w' : World} {A B C M : Option Addr} {a b c : List Itm} {x : Itm} (h : IoqM w0 A B C a b c x M w) (hb : Below w.heap.size w w') : IoqM w0 A B C a b c x M w' := ⟨h.s.later hb, h.m.later hb⟩
theorem itemorder_walk (a b c : List Itm) (A B C : Option Addr) (c1 c2 c3 : Nat) (x : Itm) (h1 : a.length ≤ 9223372036854775807) (h2 : b.length ≤ 9223372036854775807) (h3 : c.length ≤ 9223372036854775807) (oa : ItOk a) (ob : ItOk b) (ox : ItOk [x]) (w : World) (ha : ItRow w A a) (hb : ItRow w B b) (hc : ItRow w C c) :
    Calls Try.prog 4 #[.slice A a.length c1, .slice B b.length c2, .slice C c.length c3, .agg (itV x)] w (Ans w (.bool true)) := by
  have hbb := (Below.refl w.heap.size w).alloc (Nat.le_refl _) (.cells (itV x) 36)
  have HS : Hid (IoqS w A B C a b c x (w.alloc (.cells (itV x) 36))) := ⟨hbb, Blk.new _ _ _, ha.later hbb, hb.later hbb, hc.later hbb⟩
  have HAW := Lib.hid (fun w => awake13_any w)
  have HOA := Lib.hid oa
  have HOB := Lib.hid ob
  have HOX := Lib.hid ox
  clear hbb ha hb hc oa ob ox
  go_enter Try.func4, Try.ntmps4
  go_upto_region 1 with (fail)
  generalize w.alloc (.cells (itV x) 36) = w1 at HS ⊢
  by_cases ga : a.length ≤ 60
  · have za : ¬ (a.length : Int) > 60 := by omega
    by_cases gb : b.length ≤ 60
    · have zb : ¬ (b.length : Int) > 60 := by omega
      by_cases gc : c.length ≤ 60
      · have zc : ¬ (c.length : Int) > 60 := by omega
        have hal : a.length < 1073741000 := by omega
        obtain ⟨p, hp⟩ : ∃ p, stC a b = p := ⟨_, rfl⟩
        obtain ⟨r, hr⟩ : ∃ r, stC b c = r := ⟨_, rfl⟩
        obtain ⟨s, hs⟩ : ∃ s, stC a c = s := ⟨_, rfl⟩
        have HC1 := Lib.hid (fun (w' : World) (h : IoqS w A B C a b c x w') => icompare_any a b A B c1 c2 w' h.ra h.rb (by omega) (by omega))
        have HC2 := Lib.hid (fun (w' : World) (h : IoqS w A B C a b c x w') => icompare_any b a B A c2 c1 w' h.rb h.ra (by omega) (by omega))
        have HC3 := Lib.hid (fun (w' : World) (h : IoqS w A B C a b c x w') => icompare_any a a A A c1 c1 w' h.ra h.ra (by omega) (by omega))
        have HC4 := Lib.hid (fun (w' : World) (h : IoqS w A B C a b c x w') => icompare_any b c B C c2 c3 w' h.rb h.rc (by omega) (by omega))
        have HC6 := Lib.hid (fun (w' : World) (h : IoqS w A B C a b c x w') => icompare_any a c A C c1 c3 w' h.ra h.rc (by omega) (by omega))
        have HC5 : Hid (∀ (w' : World) {M : Option Addr} {cm : Nat}, IoqM w A B C a b c x M w' → Calls Try.prog 16 #[.slice A a.length c1, .slice M (a.length + 1) cm] w' (Ans w' (.int .i64 (-1)))) := fun w' M cm h => by
          have := icompare_any a (a ++ [x]) A M c1 cm w' h.s.ra h.m (by omega) (by simp; omega)
          rw [stC_more, List.length_append, List.length_singleton] at this; exact this
        have HK1 := Lib.hid (fun (w' : World) (h : IoqS w A B C a b c x w') => ikey_any a A c1 (by omega) HOA.out w' h.ra)
        have HK2 := Lib.hid (fun (w' : World) (h : IoqS w A B C a b c x w') => ikey_any b B c2 (by omega) HOB.out w' h.rb)
        have HK3 : Hid (∀ (w' : World) {M : Option Addr} {cm : Nat}, IoqM w A B C a b c x M w' → Calls Try.prog 19 #[.slice M (a.length + 1) cm] w' (KyP w' (a ++ [x]))) := fun w' M cm h => by
          have := ikey_any (a ++ [x]) M cm (by simp; omega) (HOA.out.snoc HOX.out) w' h.m
          rw [List.length_append, List.length_singleton] at this; exact this
        unfold KyP at HK1 HK2 HK3
        rw [stC_neg b a, hp] at HC2
        rw [hp] at HC1
        rw [stC_self] at HC3
        rw [hr] at HC4
        rw [hs] at HC6
        have HP : Hid (p = 0 ↔ stK a = stK b) := by unfold Hid; rw [← hp, stC_zero, stK_inj]
        have HKM : Hid (stK (a ++ [x]) ≠ stK a) := fun e => by
          have := congrArg List.length (stK_inj.1 e)
          simp at this
        have HTR : Hid (p < 0 → r < 0 → ¬ s ≥ 0) := fun e1 e2 => by
          have h1 : stC a b = -1 := by rcases stC_three a b with h | h | h <;> omega
          have h2 : stC b c = -1 := by rcases stC_three b c with h | h | h <;> omega
          have := stC_trans h1 h2
          omega
        have hp1 : -1 ≤ p ∧ p ≤ 1 := by rcases stC_three a b with h | h | h <;> omega
        have hpp : (p != p) = false := by simp
        generalize stK (a ++ [x]) = km at *
        generalize stK a = ka at *
        generalize stK b = kb at *
        clear hp hr hs ga gb gc
        obtain ⟨hp1, hp2⟩ := hp1
        go_wp2_with fail
        refine ((HAW.out _)).mono ?_; rintro e w2 ⟨rfl, hb⟩
        have HS2 := Lib.hid (HS.out.later hb)
        clear hb HS
        have HS := HS2
        clear HS2
        go_wp2_with fail
        refine ((HC1.out _ HS.out)).mono ?_; rintro e w2 ⟨rfl, hb⟩
        have HS2 := Lib.hid (HS.out.later hb)
        clear hb HS
        have HS := HS2
        clear HS2
        go_wp2_with fail
        refine ((HC2.out _ HS.out)).mono ?_; rintro e w2 ⟨rfl, hb⟩
        have HS2 := Lib.hid (HS.out.later hb)
        clear hb HS
        have HS := HS2
        clear HS2
        go_wp2_with fail
        refine ((HC3.out _ HS.out)).mono ?_; rintro e w2 ⟨rfl, hb⟩
        have HS2 := Lib.hid (HS.out.later hb)
        clear hb HS
        have HS := HS2
        clear HS2
        go_wp2_with fail
        refine ((HC1.out _ HS.out)).mono ?_; rintro e w2 ⟨rfl, hb⟩
        have HS2 := Lib.hid (HS.out.later hb)
        clear hb HS
        have HS := HS2
        clear HS2
        by_cases hpn : p < 0
        ·
          go_wp2_with fail
          refine ((HC4.out _ HS.out)).mono ?_; rintro e w2 ⟨rfl, hb⟩
          have HS2 := Lib.hid (HS.out.later hb)
          clear hb HS
          have HS := HS2
          clear HS2
          by_cases hrn : r < 0
          · have hsn := HTR.out hpn hrn
            have hsn2 : ¬ s ≥ 0 := by omega
            go_wp2_with fail
            refine ((HC6.out _ HS.out)).mono ?_; rintro e w2 ⟨rfl, hb⟩
            have HS2 := Lib.hid (HS.out.later hb)
            clear hb HS
            have HS := HS2
            clear HS2
            go_upto_region 5 with (fail)
            have HEB : Hid (IoqB w2.heap.size w2 w A B C a b c x w2) := ⟨HS.out, Nat.le_refl _, Below.refl _ _⟩
            refine wp_region_stable_tail 5 (S := (IoqB w2.heap.size w2 w A B C a b c x)) (hSt := fun _ _ h hb => h.later hb) (plan := [[], [(0, none)], [(60, some 0), (61, some 1)], [(7, none)], [(63, some 3)]]) rfl rfl (by kernel_rfl) (by kernel_rfl) (by kernel_rfl) (by kernel_rfl) ?hS ?_
            rotate_left
            (refine chain_rel (NewEI w2.heap.size) (NewEI.later w2.heap.size) (by rfl) ?_ ?_
             · intro act wx hS hr
               simp at hr
               have x0 := hS.s.bx.cell 0
               have x1 := hS.s.bx.cell 1
               have x2 := hS.s.bx.cell 2
               have x3 := hS.s.bx.cell 3
               simp [itV] at x0 x1 x2 x3
               all_goals go_simp
               exact Done.rel ((Below.refl _ _).alloc (Nat.le_refl _) _) ⟨_, rfl, Blk.new _ _ _, hS.le⟩
            )
            iterate 1 first
              | (refine chain_skip (by rfl) (by rfl) ?_)
              | (apply chain_want (by rfl)
                 · intro act wx hS hr
                   simp at hr
                   have x0 := hS.s.bx.cell 0
                   have x1 := hS.s.bx.cell 1
                   have x2 := hS.s.bx.cell 2
                   have x3 := hS.s.bx.cell 3
                   simp [itV] at x0 x1 x2 x3
                   go_simp
                   (try go_ints)
                   first
                     | exact Done.same (v := .agg (itV x))
                     | exact Done.same
                )
            (refine chain_rel (OwnVI w2.heap.size a) (OwnVI.later w2.heap.size a) (by rfl) ?_ ?_
             · intro act wx hS hr
               simp at hr
               have x0 := hS.s.bx.cell 0
               have x1 := hS.s.bx.cell 1
               have x2 := hS.s.bx.cell 2
               have x3 := hS.s.bx.cell 3
               simp [itV] at x0 x1 x2 x3
               obtain ⟨⟨v, hr2, b0, rfl, hk, hBb⟩, hr3⟩ := hr
               refine wp_append_freshI (.tmp 60) (.tmp 61) rfl w2.heap.size b0 hBb hS.le (by simp [Act.eval, hr2]) hk a A c1 (by simp [Act.eval, hr3]) hS.s.ra hal ?_
               intro v' w' q1 q2
               exact Done.rel q2 ⟨q1, Nat.le_trans hS.le q2.size⟩
               all_goals go_simp
            )
            iterate 1 first
              | (refine chain_skip (by rfl) (by rfl) ?_)
              | (apply chain_want (by rfl)
                 · intro act wx hS hr
                   simp at hr
                   have x0 := hS.s.bx.cell 0
                   have x1 := hS.s.bx.cell 1
                   have x2 := hS.s.bx.cell 2
                   have x3 := hS.s.bx.cell 3
                   simp [itV] at x0 x1 x2 x3
                   go_simp
                   (try go_ints)
                   first
                     | exact Done.same (v := .agg (itV x))
                     | exact Done.same
                )
            (refine chain_rel (NewI1 x) (NewI1.later x) (by rfl) ?_ ?_
             · intro act wx hS hr
               simp at hr
               have x0 := hS.s.bx.cell 0
               have x1 := hS.s.bx.cell 1
               have x2 := hS.s.bx.cell 2
               have x3 := hS.s.bx.cell 3
               simp [itV] at x0 x1 x2 x3
               all_goals go_simp
               exact Done.rel ((Below.refl _ _).alloc (Nat.le_refl _) _) ⟨_, rfl, Blk.new _ _ _⟩
            )
            show ∀ w', _ → _
            intro wz hz
            simp [Act.put]
            case hS => exact HEB.out
            intro v0 _ v2 hv2 v4 hv4
            obtain ⟨bn, rfl, hbk⟩ := hv4
            have HZ := Lib.hid hz
            refine wpList_append_it rfl (.tmp 62) (.tmp 64) rfl w2.heap.size v2 a rfl hv2.1 bn x rfl hbk (by omega) hv2.2 ?_
            intro v' w4 ho4 hg4
            have hb4 : Below w2.heap.size wz w4 := (Below.refl w2.heap.size _).grown hg4 hv2.2 (fun k hk => (World.ownsRow.lt hv2.1 k hk).1)
            obtain ⟨am, cm, hvm, -, hrm⟩ := ho4.row
            rw [List.length_append, List.length_singleton] at hvm
            subst hvm
            have HM := Lib.hid hrm
            have HS2 := Lib.hid (HS.out.later (HZ.out.bel.trans hb4))
            clear hz hv2 hbk ho4 hg4 hb4 hrm HEB HZ HS
            have HS : Hid (IoqM w A B C a b c x am w4) := ⟨HS2.out, HM.out⟩
            clear HS2 HM
            simp [Act.put]
            go_simp
            have hmb : (bs km == bs ka) = false := by rw [bs_beq, decide_eq_false HKM.out]
            have hmb2 : (bs km != bs ka) = true := by rw [bne, hmb]; rfl
            have hml : ¬ (bs km).toList = (bs ka).toList := fun e => HKM.out (by rw [Lib.toList_data, Lib.toList_data, bs_data, bs_data] at e; exact e)
            have hmlb : ((bs km).toList == (bs ka).toList) = false := beq_eq_false_iff_ne.2 hml
            by_cases hpe : p = 0
            · have hkab := HP.out.1 hpe
              subst hkab
              have hpb : (p == 0) = true := by simpa using hpe
              have hkk : (bs ka == bs ka) = true := by rw [bs_beq, decide_eq_true rfl]
              clear hpe
              go_wp2_with fail
              refine ((HC5.out _ HS.out)).mono ?_; rintro e w2 ⟨rfl, hb⟩
              have HS2 := Lib.hid (HS.out.later hb)
              clear hb HS
              have HS := HS2
              clear HS2
              go_wp2_with fail
              refine ((HC1.out _ HS.out.s)).mono ?_; rintro e w2 ⟨rfl, hb⟩
              have HS2 := Lib.hid (HS.out.later hb)
              clear hb HS
              have HS := HS2
              clear HS2
              go_wp2_with fail
              refine ((HK1.out _ HS.out.s)).mono ?_; rintro e w2 ⟨rfl, hb⟩
              have HS2 := Lib.hid (HS.out.later hb)
              clear hb HS
              have HS := HS2
              clear HS2
              go_wp2_with fail
              refine ((HK2.out _ HS.out.s)).mono ?_; rintro e w2 ⟨rfl, hb⟩
              have HS2 := Lib.hid (HS.out.later hb)
              clear hb HS
              have HS := HS2
              clear HS2
              go_wp2_with fail
              refine ((HK3.out _ HS.out)).mono ?_; rintro e w2 ⟨rfl, hb⟩
              have HS2 := Lib.hid (HS.out.later hb)
              clear hb HS
              have HS := HS2
              clear HS2
              go_wp2_with fail
              refine ((HK1.out _ HS.out.s)).mono ?_; rintro e w2 ⟨rfl, hb⟩
              have HS2 := Lib.hid (HS.out.later hb)
              clear hb HS
              have HS := HS2
              clear HS2
              go_wp2
              go_ret
              exact ⟨rfl, HS.out.s.bel⟩
            · have hkne : ka ≠ kb := fun e => hpe (HP.out.2 e)
              have hpb : (p == 0) = false := by simpa using hpe
              have hkb : (bs ka == bs kb) = false := by rw [bs_beq, decide_eq_false hkne]
              have hkl : ¬ (bs ka).toList = (bs kb).toList := fun e => hkne (by rw [Lib.toList_data, Lib.toList_data, bs_data, bs_data] at e; exact e)
              have hklb : ((bs ka).toList == (bs kb).toList) = false := beq_eq_false_iff_ne.2 hkl
              clear hpe hkne
              go_wp2_with fail
              refine ((HC5.out _ HS.out)).mono ?_; rintro e w2 ⟨rfl, hb⟩
              have HS2 := Lib.hid (HS.out.later hb)
              clear hb HS
              have HS := HS2
              clear HS2
              go_wp2_with fail
              refine ((HC1.out _ HS.out.s)).mono ?_; rintro e w2 ⟨rfl, hb⟩
              have HS2 := Lib.hid (HS.out.later hb)
              clear hb HS
              have HS := HS2
              clear HS2
              go_wp2_with fail
              refine ((HK1.out _ HS.out.s)).mono ?_; rintro e w2 ⟨rfl, hb⟩
              have HS2 := Lib.hid (HS.out.later hb)
              clear hb HS
              have HS := HS2
              clear HS2
              go_wp2_with fail
              refine ((HK2.out _ HS.out.s)).mono ?_; rintro e w2 ⟨rfl, hb⟩
              have HS2 := Lib.hid (HS.out.later hb)
              clear hb HS
              have HS := HS2
              clear HS2
              go_wp2_with fail
              refine ((HK3.out _ HS.out)).mono ?_; rintro e w2 ⟨rfl, hb⟩
              have HS2 := Lib.hid (HS.out.later hb)
              clear hb HS
              have HS := HS2
              clear HS2
              go_wp2_with fail
              refine ((HK1.out _ HS.out.s)).mono ?_; rintro e w2 ⟨rfl, hb⟩
              have HS2 := Lib.hid (HS.out.later hb)
              clear hb HS
              have HS := HS2
              clear HS2
              go_wp2
              go_ret
              exact ⟨rfl, HS.out.s.bel⟩
          · go_upto_region 5 with (fail)
            have HEB : Hid (IoqB w2.heap.size w2 w A B C a b c x w2) := ⟨HS.out, Nat.le_refl _, Below.refl _ _⟩
            refine wp_region_stable_tail 5 (S := (IoqB w2.heap.size w2 w A B C a b c x)) (hSt := fun _ _ h hb => h.later hb) (plan := [[], [(0, none)], [(60, some 0), (61, some 1)], [(7, none)], [(63, some 3)]]) rfl rfl (by kernel_rfl) (by kernel_rfl) (by kernel_rfl) (by kernel_rfl) ?hS ?_
            rotate_left
            (refine chain_rel (NewEI w2.heap.size) (NewEI.later w2.heap.size) (by rfl) ?_ ?_
             · intro act wx hS hr
               simp at hr
               have x0 := hS.s.bx.cell 0
               have x1 := hS.s.bx.cell 1
               have x2 := hS.s.bx.cell 2
               have x3 := hS.s.bx.cell 3
               simp [itV] at x0 x1 x2 x3
               all_goals go_simp
               exact Done.rel ((Below.refl _ _).alloc (Nat.le_refl _) _) ⟨_, rfl, Blk.new _ _ _, hS.le⟩
            )
            iterate 1 first
              | (refine chain_skip (by rfl) (by rfl) ?_)
              | (apply chain_want (by rfl)
                 · intro act wx hS hr
                   simp at hr
                   have x0 := hS.s.bx.cell 0
                   have x1 := hS.s.bx.cell 1
                   have x2 := hS.s.bx.cell 2
                   have x3 := hS.s.bx.cell 3
                   simp [itV] at x0 x1 x2 x3
                   go_simp
                   (try go_ints)
                   first
                     | exact Done.same (v := .agg (itV x))
                     | exact Done.same
                )
            (refine chain_rel (OwnVI w2.heap.size a) (OwnVI.later w2.heap.size a) (by rfl) ?_ ?_
             · intro act wx hS hr
               simp at hr
               have x0 := hS.s.bx.cell 0
               have x1 := hS.s.bx.cell 1
               have x2 := hS.s.bx.cell 2
               have x3 := hS.s.bx.cell 3
               simp [itV] at x0 x1 x2 x3
               obtain ⟨⟨v, hr2, b0, rfl, hk, hBb⟩, hr3⟩ := hr
               refine wp_append_freshI (.tmp 60) (.tmp 61) rfl w2.heap.size b0 hBb hS.le (by simp [Act.eval, hr2]) hk a A c1 (by simp [Act.eval, hr3]) hS.s.ra hal ?_
               intro v' w' q1 q2
               exact Done.rel q2 ⟨q1, Nat.le_trans hS.le q2.size⟩
               all_goals go_simp
            )
            iterate 1 first
              | (refine chain_skip (by rfl) (by rfl) ?_)
              | (apply chain_want (by rfl)
                 · intro act wx hS hr
                   simp at hr
                   have x0 := hS.s.bx.cell 0
                   have x1 := hS.s.bx.cell 1
                   have x2 := hS.s.bx.cell 2
                   have x3 := hS.s.bx.cell 3
                   simp [itV] at x0 x1 x2 x3
                   go_simp
                   (try go_ints)
                   first
                     | exact Done.same (v := .agg (itV x))
                     | exact Done.same
                )
            (refine chain_rel (NewI1 x) (NewI1.later x) (by rfl) ?_ ?_
             · intro act wx hS hr
               simp at hr
               have x0 := hS.s.bx.cell 0
               have x1 := hS.s.bx.cell 1
               have x2 := hS.s.bx.cell 2
               have x3 := hS.s.bx.cell 3
               simp [itV] at x0 x1 x2 x3
               all_goals go_simp
               exact Done.rel ((Below.refl _ _).alloc (Nat.le_refl _) _) ⟨_, rfl, Blk.new _ _ _⟩
            )
            show ∀ w', _ → _
            intro wz hz
            simp [Act.put]
            case hS => exact HEB.out
            intro v0 _ v2 hv2 v4 hv4
            obtain ⟨bn, rfl, hbk⟩ := hv4
            have HZ := Lib.hid hz
            refine wpList_append_it rfl (.tmp 62) (.tmp 64) rfl w2.heap.size v2 a rfl hv2.1 bn x rfl hbk (by omega) hv2.2 ?_
            intro v' w4 ho4 hg4
            have hb4 : Below w2.heap.size wz w4 := (Below.refl w2.heap.size _).grown hg4 hv2.2 (fun k hk => (World.ownsRow.lt hv2.1 k hk).1)
            obtain ⟨am, cm, hvm, -, hrm⟩ := ho4.row
            rw [List.length_append, List.length_singleton] at hvm
            subst hvm
            have HM := Lib.hid hrm
            have HS2 := Lib.hid (HS.out.later (HZ.out.bel.trans hb4))
            clear hz hv2 hbk ho4 hg4 hb4 hrm HEB HZ HS
            have HS : Hid (IoqM w A B C a b c x am w4) := ⟨HS2.out, HM.out⟩
            clear HS2 HM
            simp [Act.put]
            go_simp
            have hmb : (bs km == bs ka) = false := by rw [bs_beq, decide_eq_false HKM.out]
            have hmb2 : (bs km != bs ka) = true := by rw [bne, hmb]; rfl
            have hml : ¬ (bs km).toList = (bs ka).toList := fun e => HKM.out (by rw [Lib.toList_data, Lib.toList_data, bs_data, bs_data] at e; exact e)
            have hmlb : ((bs km).toList == (bs ka).toList) = false := beq_eq_false_iff_ne.2 hml
            by_cases hpe : p = 0
            · have hkab := HP.out.1 hpe
              subst hkab
              have hpb : (p == 0) = true := by simpa using hpe
              have hkk : (bs ka == bs ka) = true := by rw [bs_beq, decide_eq_true rfl]
              clear hpe
              go_wp2_with fail
              refine ((HC5.out _ HS.out)).mono ?_; rintro e w2 ⟨rfl, hb⟩
              have HS2 := Lib.hid (HS.out.later hb)
              clear hb HS
              have HS := HS2
              clear HS2
              go_wp2_with fail
              refine ((HC1.out _ HS.out.s)).mono ?_; rintro e w2 ⟨rfl, hb⟩
              have HS2 := Lib.hid (HS.out.later hb)
              clear hb HS
              have HS := HS2
              clear HS2
              go_wp2_with fail
              refine ((HK1.out _ HS.out.s)).mono ?_; rintro e w2 ⟨rfl, hb⟩
              have HS2 := Lib.hid (HS.out.later hb)
              clear hb HS
              have HS := HS2
              clear HS2
              go_wp2_with fail
              refine ((HK2.out _ HS.out.s)).mono ?_; rintro e w2 ⟨rfl, hb⟩
              have HS2 := Lib.hid (HS.out.later hb)
              clear hb HS
              have HS := HS2
              clear HS2
              go_wp2_with fail
              refine ((HK3.out _ HS.out)).mono ?_; rintro e w2 ⟨rfl, hb⟩
              have HS2 := Lib.hid (HS.out.later hb)
              clear hb HS
              have HS := HS2
              clear HS2
              go_wp2_with fail
              refine ((HK1.out _ HS.out.s)).mono ?_; rintro e w2 ⟨rfl, hb⟩
              have HS2 := Lib.hid (HS.out.later hb)
              clear hb HS
              have HS := HS2
              clear HS2
              go_wp2
              go_ret
              exact ⟨rfl, HS.out.s.bel⟩
            · have hkne : ka ≠ kb := fun e => hpe (HP.out.2 e)
              have hpb : (p == 0) = false := by simpa using hpe
              have hkb : (bs ka == bs kb) = false := by rw [bs_beq, decide_eq_false hkne]
              have hkl : ¬ (bs ka).toList = (bs kb).toList := fun e => hkne (by rw [Lib.toList_data, Lib.toList_data, bs_data, bs_data] at e; exact e)
              have hklb : ((bs ka).toList == (bs kb).toList) = false := beq_eq_false_iff_ne.2 hkl
              clear hpe hkne
              go_wp2_with fail
              refine ((HC5.out _ HS.out)).mono ?_; rintro e w2 ⟨rfl, hb⟩
              have HS2 := Lib.hid (HS.out.later hb)
              clear hb HS
              have HS := HS2
              clear HS2
              go_wp2_with fail
              refine ((HC1.out _ HS.out.s)).mono ?_; rintro e w2 ⟨rfl, hb⟩
              have HS2 := Lib.hid (HS.out.later hb)
              clear hb HS
              have HS := HS2
              clear HS2
              go_wp2_with fail
              refine ((HK1.out _ HS.out.s)).mono ?_; rintro e w2 ⟨rfl, hb⟩
              have HS2 := Lib.hid (HS.out.later hb)
              clear hb HS
              have HS := HS2
              clear HS2
              go_wp2_with fail
              refine ((HK2.out _ HS.out.s)).mono ?_; rintro e w2 ⟨rfl, hb⟩
              have HS2 := Lib.hid (HS.out.later hb)
              clear hb HS
              have HS := HS2
              clear HS2
              go_wp2_with fail
              refine ((HK3.out _ HS.out)).mono ?_; rintro e w2 ⟨rfl, hb⟩
              have HS2 := Lib.hid (HS.out.later hb)
              clear hb HS
              have HS := HS2
              clear HS2
              go_wp2_with fail
              refine ((HK1.out _ HS.out.s)).mono ?_; rintro e w2 ⟨rfl, hb⟩
              have HS2 := Lib.hid (HS.out.later hb)
              clear hb HS
              have HS := HS2
              clear HS2
              go_wp2
              go_ret
              exact ⟨rfl, HS.out.s.bel⟩
        · go_upto_region 5 with (fail)
          have HEB : Hid (IoqB w2.heap.size w2 w A B C a b c x w2) := ⟨HS.out, Nat.le_refl _, Below.refl _ _⟩
          refine wp_region_stable_tail 5 (S := (IoqB w2.heap.size w2 w A B C a b c x)) (hSt := fun _ _ h hb => h.later hb) (plan := [[], [(0, none)], [(60, some 0), (61, some 1)], [(7, none)], [(63, some 3)]]) rfl rfl (by kernel_rfl) (by kernel_rfl) (by kernel_rfl) (by kernel_rfl) ?hS ?_
          rotate_left
          (refine chain_rel (NewEI w2.heap.size) (NewEI.later w2.heap.size) (by rfl) ?_ ?_
           · intro act wx hS hr
             simp at hr
             have x0 := hS.s.bx.cell 0
             have x1 := hS.s.bx.cell 1
             have x2 := hS.s.bx.cell 2
             have x3 := hS.s.bx.cell 3
             simp [itV] at x0 x1 x2 x3
             all_goals go_simp
             exact Done.rel ((Below.refl _ _).alloc (Nat.le_refl _) _) ⟨_, rfl, Blk.new _ _ _, hS.le⟩
          )
          iterate 1 first
            | (refine chain_skip (by rfl) (by rfl) ?_)
            | (apply chain_want (by rfl)
               · intro act wx hS hr
                 simp at hr
                 have x0 := hS.s.bx.cell 0
                 have x1 := hS.s.bx.cell 1
                 have x2 := hS.s.bx.cell 2
                 have x3 := hS.s.bx.cell 3
                 simp [itV] at x0 x1 x2 x3
                 go_simp
                 (try go_ints)
                 first
                   | exact Done.same (v := .agg (itV x))
                   | exact Done.same
              )
          (refine chain_rel (OwnVI w2.heap.size a) (OwnVI.later w2.heap.size a) (by rfl) ?_ ?_
           · intro act wx hS hr
             simp at hr
             have x0 := hS.s.bx.cell 0
             have x1 := hS.s.bx.cell 1
             have x2 := hS.s.bx.cell 2
             have x3 := hS.s.bx.cell 3
             simp [itV] at x0 x1 x2 x3
             obtain ⟨⟨v, hr2, b0, rfl, hk, hBb⟩, hr3⟩ := hr
             refine wp_append_freshI (.tmp 60) (.tmp 61) rfl w2.heap.size b0 hBb hS.le (by simp [Act.eval, hr2]) hk a A c1 (by simp [Act.eval, hr3]) hS.s.ra hal ?_
             intro v' w' q1 q2
             exact Done.rel q2 ⟨q1, Nat.le_trans hS.le q2.size⟩
             all_goals go_simp
          )
          iterate 1 first
            | (refine chain_skip (by rfl) (by rfl) ?_)
            | (apply chain_want (by rfl)
               · intro act wx hS hr
                 simp at hr
                 have x0 := hS.s.bx.cell 0
                 have x1 := hS.s.bx.cell 1
                 have x2 := hS.s.bx.cell 2
                 have x3 := hS.s.bx.cell 3
                 simp [itV] at x0 x1 x2 x3
                 go_simp
                 (try go_ints)
                 first
                   | exact Done.same (v := .agg (itV x))
                   | exact Done.same
              )
          (refine chain_rel (NewI1 x) (NewI1.later x) (by rfl) ?_ ?_
           · intro act wx hS hr
             simp at hr
             have x0 := hS.s.bx.cell 0
             have x1 := hS.s.bx.cell 1
             have x2 := hS.s.bx.cell 2
             have x3 := hS.s.bx.cell 3
             simp [itV] at x0 x1 x2 x3
             all_goals go_simp
             exact Done.rel ((Below.refl _ _).alloc (Nat.le_refl _) _) ⟨_, rfl, Blk.new _ _ _⟩
          )
          show ∀ w', _ → _
          intro wz hz
          simp [Act.put]
          case hS => exact HEB.out
          intro v0 _ v2 hv2 v4 hv4
          obtain ⟨bn, rfl, hbk⟩ := hv4
          have HZ := Lib.hid hz
          refine wpList_append_it rfl (.tmp 62) (.tmp 64) rfl w2.heap.size v2 a rfl hv2.1 bn x rfl hbk (by omega) hv2.2 ?_
          intro v' w4 ho4 hg4
          have hb4 : Below w2.heap.size wz w4 := (Below.refl w2.heap.size _).grown hg4 hv2.2 (fun k hk => (World.ownsRow.lt hv2.1 k hk).1)
          obtain ⟨am, cm, hvm, -, hrm⟩ := ho4.row
          rw [List.length_append, List.length_singleton] at hvm
          subst hvm
          have HM := Lib.hid hrm
          have HS2 := Lib.hid (HS.out.later (HZ.out.bel.trans hb4))
          clear hz hv2 hbk ho4 hg4 hb4 hrm HEB HZ HS
          have HS : Hid (IoqM w A B C a b c x am w4) := ⟨HS2.out, HM.out⟩
          clear HS2 HM
          simp [Act.put]
          go_simp
          have hmb : (bs km == bs ka) = false := by rw [bs_beq, decide_eq_false HKM.out]
          have hmb2 : (bs km != bs ka) = true := by rw [bne, hmb]; rfl
          have hml : ¬ (bs km).toList = (bs ka).toList := fun e => HKM.out (by rw [Lib.toList_data, Lib.toList_data, bs_data, bs_data] at e; exact e)
          have hmlb : ((bs km).toList == (bs ka).toList) = false := beq_eq_false_iff_ne.2 hml
          by_cases hpe : p = 0
          · have hkab := HP.out.1 hpe
            subst hkab
            have hpb : (p == 0) = true := by simpa using hpe
            have hkk : (bs ka == bs ka) = true := by rw [bs_beq, decide_eq_true rfl]
            clear hpe
            go_wp2_with fail
            refine ((HC5.out _ HS.out)).mono ?_; rintro e w2 ⟨rfl, hb⟩
            have HS2 := Lib.hid (HS.out.later hb)
            clear hb HS
            have HS := HS2
            clear HS2
            go_wp2_with fail
            refine ((HC1.out _ HS.out.s)).mono ?_; rintro e w2 ⟨rfl, hb⟩
            have HS2 := Lib.hid (HS.out.later hb)
            clear hb HS
            have HS := HS2
            clear HS2
            go_wp2_with fail
            refine ((HK1.out _ HS.out.s)).mono ?_; rintro e w2 ⟨rfl, hb⟩
            have HS2 := Lib.hid (HS.out.later hb)
            clear hb HS
            have HS := HS2
            clear HS2
            go_wp2_with fail
            refine ((HK2.out _ HS.out.s)).mono ?_; rintro e w2 ⟨rfl, hb⟩
            have HS2 := Lib.hid (HS.out.later hb)
            clear hb HS
            have HS := HS2
            clear HS2
            go_wp2_with fail
            refine ((HK3.out _ HS.out)).mono ?_; rintro e w2 ⟨rfl, hb⟩
            have HS2 := Lib.hid (HS.out.later hb)
            clear hb HS
            have HS := HS2
            clear HS2
            go_wp2_with fail
            refine ((HK1.out _ HS.out.s)).mono ?_; rintro e w2 ⟨rfl, hb⟩
            have HS2 := Lib.hid (HS.out.later hb)
            clear hb HS
            have HS := HS2
            clear HS2
            go_wp2
            go_ret
            exact ⟨rfl, HS.out.s.bel⟩
          · have hkne : ka ≠ kb := fun e => hpe (HP.out.2 e)
            have hpb : (p == 0) = false := by simpa using hpe
            have hkb : (bs ka == bs kb) = false := by rw [bs_beq, decide_eq_false hkne]
            have hkl : ¬ (bs ka).toList = (bs kb).toList := fun e => hkne (by rw [Lib.toList_data, Lib.toList_data, bs_data, bs_data] at e; exact e)
            have hklb : ((bs ka).toList == (bs kb).toList) = false := beq_eq_false_iff_ne.2 hkl
            clear hpe hkne
            go_wp2_with fail
            refine ((HC5.out _ HS.out)).mono ?_; rintro e w2 ⟨rfl, hb⟩
            have HS2 := Lib.hid (HS.out.later hb)
            clear hb HS
            have HS := HS2
            clear HS2
            go_wp2_with fail
            refine ((HC1.out _ HS.out.s)).mono ?_; rintro e w2 ⟨rfl, hb⟩
            have HS2 := Lib.hid (HS.out.later hb)
            clear hb HS
            have HS := HS2
            clear HS2
            go_wp2_with fail
            refine ((HK1.out _ HS.out.s)).mono ?_; rintro e w2 ⟨rfl, hb⟩
            have HS2 := Lib.hid (HS.out.later hb)
            clear hb HS
            have HS := HS2
            clear HS2
            go_wp2_with fail
            refine ((HK2.out _ HS.out.s)).mono ?_; rintro e w2 ⟨rfl, hb⟩
            have HS2 := Lib.hid (HS.out.later hb)
            clear hb HS
            have HS := HS2
            clear HS2
            go_wp2_with fail
            refine ((HK3.out _ HS.out)).mono ?_; rintro e w2 ⟨rfl, hb⟩
            have HS2 := Lib.hid (HS.out.later hb)
            clear hb HS
            have HS := HS2
            clear HS2
            go_wp2_with fail
            refine ((HK1.out _ HS.out.s)).mono ?_; rintro e w2 ⟨rfl, hb⟩
            have HS2 := Lib.hid (HS.out.later hb)
            clear hb HS
            have HS := HS2
            clear HS2
            go_wp2
            go_ret
            exact ⟨rfl, HS.out.s.bel⟩
      · have zc : (c.length : Int) > 60 := by omega
        clear ga gb gc
        go_wp2_with fail
        refine ((HAW.out _)).mono ?_; rintro e w2 ⟨rfl, hb⟩
        have HS2 := Lib.hid (HS.out.later hb)
        clear hb HS
        have HS := HS2
        clear HS2
        go_wp2_with fail
        refine ((HAW.out _)).mono ?_; rintro e w2 ⟨rfl, hb⟩
        have HS2 := Lib.hid (HS.out.later hb)
        clear hb HS
        have HS := HS2
        clear HS2
        go_wp2
        go_ret
        exact ⟨rfl, HS.out.bel⟩
    · have zb : (b.length : Int) > 60 := by omega
      clear ga gb
      go_wp2_with fail
      refine ((HAW.out _)).mono ?_; rintro e w2 ⟨rfl, hb⟩
      have HS2 := Lib.hid (HS.out.later hb)
      clear hb HS
      have HS := HS2
      clear HS2
      go_wp2_with fail
      refine ((HAW.out _)).mono ?_; rintro e w2 ⟨rfl, hb⟩
      have HS2 := Lib.hid (HS.out.later hb)
      clear hb HS
      have HS := HS2
      clear HS2
      go_wp2
      go_ret
      exact ⟨rfl, HS.out.bel⟩
  · have za : (a.length : Int) > 60 := by omega
    clear ga
    go_wp2_with fail
    refine ((HAW.out _)).mono ?_; rintro e w2 ⟨rfl, hb⟩
    have HS2 := Lib.hid (HS.out.later hb)
    clear hb HS
    have HS := HS2
    clear HS2
    go_wp2_with fail
    refine ((HAW.out _)).mono ?_; rintro e w2 ⟨rfl, hb⟩
    have HS2 := Lib.hid (HS.out.later hb)
    clear hb HS
    have HS := HS2
    clear HS2
    go_wp2
    go_ret
    exact ⟨rfl, HS.out.bel⟩
end Go.Proofs.Ytnhcbldcfcibiaa
/- States written into; states without their first item; how forms are told of wholes. -/
namespace Go.Proofs.Ytnhcbldcfcibiaa
open Go Go.RowKit
set_option linter.unusedVariables false
set_option linter.unusedSimpArgs false

theorem OwnIt.blk {w : World} {B : Nat} {v : Value} {l : List Itm} (h : OwnIt w B v l) (hl : 0 < l.length) : ∃ g cap cur, v = .slice (some ⟨g, 0, none⟩) l.length cap ∧ B ≤ g ∧ Blk w g cur 36 ∧ l.length ≤ cap ∧ cap ≤ maxLen ∧ cur.size = cap * 4 ∧ cur.toList.take (l.length * 4) = flatIt l := by
  obtain ⟨hx, h2⟩ := h
  rcases h2 with ⟨-, h2⟩ | ⟨g, cap, cur, h3, h4, h5, h6, h7, h8, h9⟩
  · omega
  · exact ⟨g, cap, cur, h3, h4, h5, h6, h7, h8, h9⟩
/-- One cell of the first item turned. -/
theorem OwnIt.setc {w : World} {B g n cap : Nat} {a b : Itm} {r : List Itm} (h : OwnIt w B (.slice (some ⟨g, 0, none⟩) n cap) (a :: r)) (j : Nat) (hj : j < 4) (u : Value) (hu : (itV a).setIfInBounds j u = itV b) :
    OwnIt (w.setCell ⟨g, j, none⟩ u) B (.slice (some ⟨g, 0, none⟩) n cap) (b :: r) := by
  obtain ⟨h0, ⟨hv, hn⟩ | ⟨g', cap', cur, hv, hb, hg, hc, hm, hs, ht⟩⟩ := h
  · simp at hn
  · have hv2 := hv
    cases hv2
    have hk : Blk w g cur 36 := hg
    refine ⟨by rw [flatIt_length], .inr ⟨g, cap, cur.setIfInBounds j u, hv, hb, hk.setCell j u, hc, hm, by simpa using hs, ?_⟩⟩
    rw [Array.toList_setIfInBounds, List.take_set, show (b :: r).length = (a :: r).length from rfl, ht]
    show ((itV a).toList ++ flatIt r).set j u = (itV b).toList ++ flatIt r
    rw [List.set_append_left _ _ (by rw [itV_size]; exact hj), ← hu, Array.toList_setIfInBounds]
/-- The first item turned. -/
def put4 (w : World) (g : Nat) (x : Itm) : World := (((w.setCell ⟨g, 0, none⟩ (.int .i64 x.kind)).setCell ⟨g, 1, none⟩ (.int .i64 x.node)).setCell ⟨g, 2, none⟩ (.int .i64 x.lo)).setCell ⟨g, 3, none⟩ (.int .i64 x.hi)
theorem OwnIt.put {w : World} {B g n cap : Nat} {a : Itm} {r : List Itm} (h : OwnIt w B (.slice (some ⟨g, 0, none⟩) n cap) (a :: r)) (x : Itm) : OwnIt (put4 w g x) B (.slice (some ⟨g, 0, none⟩) n cap) (x :: r) := by
  unfold put4
  have h1 := h.setc 0 (by omega) (.int .i64 x.kind) (b := ⟨x.kind, a.node, a.lo, a.hi⟩) rfl
  have h2 := h1.setc 1 (by omega) (.int .i64 x.node) (b := ⟨x.kind, x.node, a.lo, a.hi⟩) rfl
  have h3 := h2.setc 2 (by omega) (.int .i64 x.lo) (b := ⟨x.kind, x.node, x.lo, a.hi⟩) rfl
  exact h3.setc 3 (by omega) (.int .i64 x.hi) (b := x) rfl
theorem put4_below {w0 w : World} {B g : Nat} (h : Below B w0 w) (hg : B ≤ g) (x : Itm) : Below B w0 (put4 w g x) := by
  unfold put4
  exact (((h.setCell (p := ⟨g, 0, none⟩) hg _).setCell (p := ⟨g, 1, none⟩) hg _).setCell (p := ⟨g, 2, none⟩) hg _).setCell (p := ⟨g, 3, none⟩) hg _
/-- Without its first item. -/
theorem ItRow.tl {w : World} {b o : Nat} {a : Itm} {r : List Itm} (h : ItRow w (some ⟨b, o, none⟩) (a :: r)) : ItRow w (some ⟨b, o + 4, none⟩) r := fun i hi => by
  obtain ⟨b', o', e, h2, h3⟩ := h (i + 1) (by simpa using hi)
  cases e
  refine ⟨b, o + 4, rfl, h2, fun j hj => ?_⟩
  have := h3 j hj
  rw [show o + 4 + i * 4 + j = o + (i + 1) * 4 + j by omega, this]; rfl
theorem stF_app {l : List Nd} {s t : List Itm} : stF l (s ++ t) = (stF l s && stF l t) := by unfold stF; rw [List.all_append]
theorem stF_cons {l : List Nd} {a : Itm} {r : List Itm} : stF l (a :: r) = (itF l a && stF l r) := by unfold stF; rw [List.all_cons]
theorem itF_far {l : List Nd} {f : Nat} : itF l ⟨1, (l.length : Int) + (f : Int), 0, 0⟩ = false := by
  unfold itF; rw [if_neg (by show ¬ (1 : Int) = 5; omega), if_pos]; exact .inr (by show (l.length : Int) ≤ (l.length : Int) + (f : Int); omega)
theorem itF_kind {l : List Nd} {f : Nat} {x : Itm} (h : x.kind = 6 + (f : Int)) : itF l x = false := itF_none (by omega) (by omega) (by omega) (by omega) (by omega)
theorem itF_lo {l : List Nd} {f : Nat} : itF l ⟨5, 0, 65536 + (f : Int), 0⟩ = false := by
  unfold itF; rw [if_pos rfl]
  have : decide (65536 + (f : Int) ≤ 65535) = false := by simp; omega
  simp [this]
theorem it_append_empty (w : World) (V : Option Addr) (n cap : Nat) (A : Option Addr) (c : Nat) (t : TypeId) (hn : n ≤ cap) (hV : V = none → n = 0 ∧ cap = 0) : (Builtin.append_ #[26, 26] t #[.slice V n cap, .slice A 0 c]).run Try.prog w = .ok (.slice V n cap) w := by
  obtain ⟨ib, hib, hz0, hz1, hz2⟩ := info_parts infoIt
  cases V with
  | none =>
    obtain ⟨rfl, rfl⟩ := hV rfl
    cases A with
    | none => simp [Builtin.append_, run_underlying Try.underlying26, sizeOf, typeInfo, hib, Builtin.lenOf, Builtin.firstCells, storeCells]
    | some x =>
      have hf := run_firstCells_some (P := Try.prog) w ib.size 0 x 0 c [] (by simp) (by simp)
      simp [Builtin.append_, run_underlying Try.underlying26, sizeOf, typeInfo, hib, Builtin.lenOf, hf, storeCells]
  | some y =>
    cases A with
    | none => simp [Builtin.append_, run_underlying Try.underlying26, sizeOf, typeInfo, hib, Builtin.lenOf, Builtin.firstCells, storeCells, hn]
    | some x =>
      have hf := run_firstCells_some (P := Try.prog) w ib.size 0 x 0 c [] (by simp) (by simp)
      simp [Builtin.append_, run_underlying Try.underlying26, sizeOf, typeInfo, hib, Builtin.lenOf, hf, storeCells, hn]
/-- An append of whatever state to one that a call owns. -/
theorem wpList_append_any {w : World} {ops : Array Oper} {rest : List Oper} {o : Oper} {a : Act} {Q : Exit → Act → World → Prop} (hgd : o.guard = none) (s x : Operand)
    (ho : o.op = .call { callee := .builtin .append, args := #[s, x], argTypes := #[26, 26] })
    (base : Nat) (v : Value) (l : List Itm) (hs : a.eval s = v) (hown : OwnIt w base v l)
    (A : Option Addr) (c : Nat) (r : List Itm) (hx : a.eval x = .slice A r.length c) (hr : ItRow w A r) (hlen : l.length + r.length < 1073741000) (hbase : base ≤ w.heap.size)
    (h : ∀ v' w', OwnIt w' base v' (l ++ r) → w.grownBy w' v.ownBlock → wpList Try.prog ops Q rest (a.put o.dst v') w') : wpList Try.prog ops Q (o :: rest) a w := by
  by_cases hne : 0 < r.length
  · obtain ⟨b, off, rfl, -, -⟩ := hr 0 hne
    exact wpList_plain hgd fun K hK => wp_append_it s x ho base v l hs hown b off c r hx hr (by omega) hbase fun v' w' h1 h2 => hK _ _ (h v' w' h1 h2)
  · have hl : r = [] := List.length_eq_zero_iff.1 (by omega)
    subst hl
    refine wpList_plain hgd fun K hK => ?_
    have hrun : (Builtin.append_ #[26, 26] o.type #[v, .slice A 0 c]).run Try.prog w = .ok v w := by
      obtain ⟨_, ⟨hv, hn⟩ | ⟨g, cap, cur, hv, hb, hg, hc, hm, hs2, ht⟩⟩ := hown
      · rw [hv]; exact it_append_empty w none 0 0 A c o.type (Nat.le_refl _) (fun _ => ⟨rfl, rfl⟩)
      · rw [hv]; exact it_append_empty w _ _ _ A c o.type hc (fun e => by cases e)
    unfold Oper.wp execOp
    simp only [ho, resolve, invoke, builtin, Sem.run_bind, Sem.run_pure, Result.andThen_ok, List.map_toArray, List.map_cons, List.map_nil, hs, hx, List.length_nil, hrun]
    exact hK _ _ (h v w (by rw [List.append_nil]; exact hown) (World.grownBy.refl _ _))
theorem OwnIt.rowAt {w : World} {B g n cap : Nat} {l : List Itm} (h : OwnIt w B (.slice (some ⟨g, 0, none⟩) n cap) l) : ItRow w (some ⟨g, 0, none⟩) l := by
  obtain ⟨a, c, e, -, hr⟩ := h.row
  cases e; exact hr
theorem put_row {w : World} {B g n cap : Nat} {l : List Itm} {a : Itm} {r : List Itm} (h : OwnIt w B (.slice (some ⟨g, 0, none⟩) n cap) l) (e : l = a :: r) (x : Itm) : ItRow (put4 w g x) (some ⟨g, 0, none⟩) (x :: r) := by
  subst e; exact (h.put x).rowAt
theorem put_kind {w : World} {B g n cap : Nat} {l : List Itm} {a : Itm} {r : List Itm} (h : OwnIt w B (.slice (some ⟨g, 0, none⟩) n cap) l) (e : l = a :: r) (k : Int) : ItRow (w.setCell ⟨g, 0, none⟩ (.int .i64 k)) (some ⟨g, 0, none⟩) (⟨k, a.node, a.lo, a.hi⟩ :: r) := by
  subst e; exact (h.setc 0 (by omega) (.int .i64 k) (b := ⟨k, a.node, a.lo, a.hi⟩) rfl).rowAt
end Go.Proofs.Ytnhcbldcfcibiaa
/- How often states are lowered: plain mathematics. -/
namespace Go.Proofs.Ytnhcbldcfcibiaa
open Go
set_option linter.unusedVariables false
set_option linter.unusedSimpArgs false

/-- The nearest end ahead, -1 if there is none: as the law reckons it. -/
def nrS (a : Int) (x : Itm) : Int := if x.kind = 5 ∧ (a < 0 ∨ x.lo < a) then x.lo else a
def nrL (s : List Itm) : Int := s.foldl nrS (-1)
theorem nrL_snoc (s : List Itm) (x : Itm) : nrL (s ++ [x]) = nrS (nrL s) x := by unfold nrL; rw [List.foldl_append]; rfl
/-- All ends are 0 ahead, or more. -/
def EndOk (s : List Itm) : Prop := ∀ x ∈ s, x.kind = 5 → 0 ≤ x.lo ∧ x.lo ≤ 65535
theorem nr_is : ∀ (n : Nat) (s : List Itm), s.length = n → EndOk s → (nrL s = -1 ∧ ∀ x ∈ s, x.kind ≠ 5) ∨ (0 ≤ nrL s ∧ nrL s ≤ 65535 ∧ (∃ x ∈ s, x.kind = 5 ∧ x.lo = nrL s) ∧ ∀ x ∈ s, x.kind = 5 → nrL s ≤ x.lo)
  | 0, s, hs, _ => by
    obtain rfl := List.length_eq_zero_iff.1 hs
    exact .inl ⟨rfl, fun x hx => by cases hx⟩
  | n + 1, s, hs, h => by
    obtain ⟨r, y, rfl⟩ : ∃ r y, s = r ++ [y] := by
      have hne : s ≠ [] := fun e => by rw [e] at hs; simp at hs
      exact ⟨s.dropLast, s.getLast hne, (List.dropLast_concat_getLast hne).symm⟩
    have ih := nr_is n r (by simpa using hs) fun x hx => h x (List.mem_append_left _ hx)
    have hy := h y (List.mem_append_right _ (List.mem_singleton.2 rfl))
    rw [nrL_snoc]
    unfold nrS
    rcases ih with ⟨h1, h2⟩ | ⟨h1, h1b, ⟨z, hz, hz5, hzl⟩, h3⟩
    · by_cases h5 : y.kind = 5
      · rw [if_pos ⟨h5, .inl (by omega)⟩]
        refine .inr ⟨(hy h5).1, (hy h5).2, ⟨y, List.mem_append_right _ (List.mem_singleton.2 rfl), h5, rfl⟩, fun x hx hx5 => ?_⟩
        rcases List.mem_append.1 hx with hx | hx
        · exact absurd hx5 (h2 x hx)
        · rw [List.mem_singleton.1 hx]; exact Int.le_refl _
      · rw [if_neg (fun h => h5 h.1)]
        refine .inl ⟨h1, fun x hx => ?_⟩
        rcases List.mem_append.1 hx with hx | hx
        · exact h2 x hx
        · rw [List.mem_singleton.1 hx]; exact h5
    · by_cases h5 : y.kind = 5 ∧ (nrL r < 0 ∨ y.lo < nrL r)
      · rw [if_pos h5]
        refine .inr ⟨(hy h5.1).1, (hy h5.1).2, ⟨y, List.mem_append_right _ (List.mem_singleton.2 rfl), h5.1, rfl⟩, fun x hx hx5 => ?_⟩
        rcases List.mem_append.1 hx with hx | hx
        · have := h3 x hx hx5; omega
        · rw [List.mem_singleton.1 hx]; exact Int.le_refl _
      · rw [if_neg h5]
        refine .inr ⟨h1, h1b, ⟨z, List.mem_append_left _ hz, hz5, hzl⟩, fun x hx hx5 => ?_⟩
        rcases List.mem_append.1 hx with hx | hx
        · exact h3 x hx hx5
        · rw [List.mem_singleton.1 hx] at hx5 ⊢; omega
/-- Each end so many nearer. -/
def dwI (k : Nat) (x : Itm) : Itm := if x.kind = 5 then { x with lo := x.lo - (k : Int) } else x
theorem dwI_zero (x : Itm) : dwI 0 x = x := by unfold dwI; split <;> simp
theorem dwI_kind (k : Nat) (x : Itm) : (dwI k x).kind = x.kind := by unfold dwI; split <;> rfl
theorem low_dwI (k : Nat) (x : Itm) : lowI (dwI k x) = dwI (k + 1) x := by
  unfold lowI; rw [dwI_kind]; unfold dwI
  by_cases h : x.kind = 5
  · rw [if_pos h, if_pos h, if_pos h]
    show (⟨x.kind, x.node, x.lo - (k : Int) - 1, x.hi⟩ : Itm) = ⟨x.kind, x.node, x.lo - ((k + 1 : Nat) : Int), x.hi⟩
    congr 1; omega
  · rw [if_neg h, if_neg h, if_neg h]
theorem low_dw (k : Nat) (s : List Itm) : (s.map (dwI k)).map lowI = s.map (dwI (k + 1)) := by
  rw [List.map_map]; apply List.map_congr_left; intro x _; exact low_dwI k x
/-- Lowered so often, a state may be lowered once more while its nearest end is ahead. -/
theorem lowS_dw {s : List Itm} (h : EndOk s) {k : Nat} : (0 ≤ nrL s → (k : Int) < nrL s → lowS (s.map (dwI k)) = some (s.map (dwI (k + 1)))) ∧ (nrL s < 0 → lowS (s.map (dwI k)) = some (s.map (dwI (k + 1)))) ∧ (0 ≤ nrL s → nrL s ≤ (k : Int) → lowS (s.map (dwI k)) = none) := by
  have hn := nr_is s.length s rfl h
  have hall : (∀ x ∈ s, x.kind = 5 → (k : Int) < x.lo) → lowS (s.map (dwI k)) = some (s.map (dwI (k + 1))) := fun hx => by
    unfold lowS
    rw [if_pos, low_dw]
    rw [List.all_eq_true]
    intro y hy
    obtain ⟨x, hxm, rfl⟩ := List.mem_map.1 hy
    unfold maylow; rw [dwI_kind]
    by_cases h5 : x.kind = 5
    · have := hx x hxm h5
      have e : (dwI k x).lo = x.lo - (k : Int) := by unfold dwI; rw [if_pos h5]
      rw [e]; simp [h5]; omega
    · simp [h5]
  refine ⟨fun h0 hk => ?_, fun h0 => ?_, fun h0 hk => ?_⟩
  · rcases hn with ⟨h1, -⟩ | ⟨-, -, -, h3⟩
    · omega
    · exact hall fun x hx h5 => by have := h3 x hx h5; omega
  · rcases hn with ⟨-, h2⟩ | ⟨h1, -⟩
    · exact hall fun x hx h5 => absurd h5 (h2 x hx)
    · omega
  · rcases hn with ⟨h1, -⟩ | ⟨-, -, ⟨z, hz, hz5, hzl⟩, -⟩
    · omega
    · unfold lowS
      rw [if_neg]
      rw [List.all_eq_true]
      intro hh
      have := hh (dwI k z) (List.mem_map.2 ⟨z, hz, rfl⟩)
      unfold maylow at this; rw [dwI_kind] at this
      have e : (dwI k z).lo = z.lo - (k : Int) := by unfold dwI; rw [if_pos hz5]
      rw [e] at this
      simp [hz5] at this; omega
theorem dw_none {s : List Itm} (h : EndOk s) (hn : nrL s < 0) (k : Nat) : s.map (dwI k) = s := by
  have hx := nr_is s.length s rfl h
  rcases hx with ⟨-, h2⟩ | ⟨h1, -⟩
  · conv => rhs; rw [← List.map_id s]
    apply List.map_congr_left
    intro x hx
    unfold dwI; rw [if_neg (h2 x hx)]; rfl
  · omega
theorem stF_endok {l : List Nd} {s : List Itm} (h : stF l s = true) : EndOk s := fun x hx h5 => by
  unfold stF at h
  have := List.all_eq_true.1 h x hx
  rw [show itF l x = _ from by unfold itF; rw [if_pos h5]] at this
  simp only [Bool.and_eq_true, decide_eq_true_iff] at this
  exact ⟨this.1.1.2, this.1.2⟩
/-- Lowered, it has its form. -/
theorem stF_dw {l : List Nd} {s : List Itm} (h : stF l s = true) {k : Nat} (hk : nrL s < 0 ∨ (k : Int) ≤ nrL s) : stF l (s.map (dwI k)) = true := by
  have he := stF_endok h
  have hn := nr_is s.length s rfl he
  unfold stF at h ⊢
  rw [List.all_eq_true] at h ⊢
  intro y hy
  obtain ⟨x, hx, rfl⟩ := List.mem_map.1 hy
  have h1 := h x hx
  by_cases h5 : x.kind = 5
  · have h2 := he x hx h5
    have h3 : (k : Int) ≤ x.lo := by
      rcases hn with ⟨-, h6⟩ | ⟨h6, -, -, h7⟩
      · exact absurd h5 (h6 x hx)
      · have := h7 x hx h5; omega
    rw [show itF l x = _ from by unfold itF; rw [if_pos h5]] at h1
    have e : dwI k x = ⟨x.kind, x.node, x.lo - (k : Int), x.hi⟩ := by unfold dwI; rw [if_pos h5]
    rw [e]
    rw [show itF l ⟨x.kind, x.node, x.lo - (k : Int), x.hi⟩ = _ from by unfold itF; rw [if_pos h5]]
    simp only [Bool.and_eq_true, decide_eq_true_iff] at h1 ⊢
    omega
  · have e : dwI k x = x := by unfold dwI; rw [if_neg h5]
    rw [e]; exact h1
theorem ok_dw {s : List Itm} (h : ItOk s) (he : EndOk s) {k : Nat} (hk : k ≤ 1000) : ItOk (s.map (dwI k)) := fun y hy => by
  obtain ⟨x, hx, rfl⟩ := List.mem_map.1 hy
  have h1 := h x hx
  by_cases h5 : x.kind = 5
  · have h2 := he x hx h5
    have e : dwI k x = ⟨x.kind, x.node, x.lo - (k : Int), x.hi⟩ := by unfold dwI; rw [if_pos h5]
    rw [e]
    exact ⟨h1.1, h1.2.1, ⟨by show -9223372036854775808 ≤ x.lo - (k : Int); omega, by show x.lo - (k : Int) ≤ 9223372036854775807; omega⟩, h1.2.2.2⟩
  · have e : dwI k x = x := by unfold dwI; rw [if_neg h5]
    rw [e]; exact h1
theorem map_dw_zero (s : List Itm) : s.map (dwI 0) = s := by
  conv => rhs; rw [← List.map_id s]
  exact List.map_congr_left fun x _ => dwI_zero x
theorem dw_at {s : List Itm} {k i : Nat} (hi : i < s.length) : (s.map (dwI k)).getD i it0 = dwI k (s.getD i it0) := by
  rw [List.getD_eq_getElem?_getD, List.getD_eq_getElem?_getD, List.getElem?_map, List.getElem?_eq_getElem hi]; rfl
theorem nrL_take {s : List Itm} {k : Nat} (hk : k < s.length) : nrL (s.take (k + 1)) = nrS (nrL (s.take k)) (s.getD k it0) := by rw [take_it hk, nrL_snoc]
theorem nrL_bnd {s : List Itm} (h : EndOk s) : -1 ≤ nrL s ∧ nrL s ≤ 65535 := by
  rcases nr_is s.length s rfl h with ⟨h, -⟩ | ⟨h, h2, -⟩ <;> omega
end Go.Proofs.Ytnhcbldcfcibiaa
