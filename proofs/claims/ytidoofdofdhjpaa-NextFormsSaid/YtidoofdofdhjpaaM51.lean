/- The anchor of layer 15. -/
import Derived.Test.YtidoofdofdhjpaaM50
import Derived.Test.YtidoofdofdhjpaaM48
import Derived.Test.YtidoofdofdhjpaaM21
namespace Go.Proofs.Ytidoofdofdhjpaa
open Go Go.RowKit
set_option linter.unusedVariables false
set_option linter.unusedSimpArgs false
set_option maxRecDepth 100000

structure AxS (w0 : World) (bb : Nat) (Ab : Option Addr) (bo : Nat) (Ao : Option Addr) (co : Nat) (bf : Nat) (Af : Option Addr) (cf : Nat) (P : World → Prop) (w : World) : Prop where
  bel : Below w0.heap.size w0 w
  b : Dx bb Ab nwB 1 1 w
  o : Dx bo Ao nwO 3 co w
  f : Dx bf Af nwF 2 cf w
  p : P w
  pl : ∀ w w', P w → Below w.heap.size w w' → P w'
theorem AxS.later {w0 w w' : World} {bb : Nat} {Ab : Option Addr} {bo : Nat} {Ao : Option Addr} {co : Nat} {bf : Nat} {Af : Option Addr} {cf : Nat} {P : World → Prop} (h : AxS w0 bb Ab bo Ao co bf Af cf P w) (hb : Below w.heap.size w w') : AxS w0 bb Ab bo Ao co bf Af cf P w' :=
  ⟨h.bel.trans (hb.mono h.bel.size), h.b.later hb, h.o.later hb, h.f.later hb, h.pl _ _ h.p hb, h.pl⟩
theorem AxS.add {w0 w : World} {bb : Nat} {Ab : Option Addr} {bo : Nat} {Ao : Option Addr} {co : Nat} {bf : Nat} {Af : Option Addr} {cf : Nat} {P Q : World → Prop} (h : AxS w0 bb Ab bo Ao co bf Af cf P w) (hq : Q w) (hl : ∀ w w', Q w → Below w.heap.size w w' → Q w') : AxS w0 bb Ab bo Ao co bf Af cf (fun w => P w ∧ Q w) w :=
  ⟨h.bel, h.b, h.o, h.f, ⟨h.p, hq⟩, fun w w' k hb => ⟨h.pl w w' k.1 hb, hl w w' k.2 hb⟩⟩
set_option maxHeartbeats 16000000 in
set_option maxRecDepth 1000000 in
theorem awake15_any (w : World) : Calls Try.prog 7 #[] w (Ans w (.bool true)) := by
  have CR : Hid (Calls Try.prog 25 #[.int .u8 5, .int .u8 6] w (Ans w (cls (rowB 5 6)))) := refrow_any 5 6 (by omega) (by omega) w
  unfold cls at CR
  have hnd : ndC nwBn = #[.int .i64 2, .int .i64 0, .int .i64 0, .int .i64 0, .int .i64 0, .int .u64 (wd (rowB 5 6) 0), .int .u64 (wd (rowB 5 6) 1), .int .u64 (wd (rowB 5 6) 2), .int .u64 (wd (rowB 5 6) 3), .string ⟨#[]⟩] := rfl
  generalize wd (rowB 5 6) 0 = k0 at *
  generalize wd (rowB 5 6) 1 = k1 at *
  generalize wd (rowB 5 6) 2 = k2 at *
  generalize wd (rowB 5 6) 3 = k3 at *
  go_enter Try.func7, Try.ntmps7
  go_wp2_with fail
  refine CR.out.mono ?_; rintro e w0 ⟨rfl, hb0⟩
  have HB0 := Lib.hid hb0
  clear hb0 CR
  go_upto_region 2 with (fail)
  obtain ⟨ht, hb1⟩ := dx_one nwBn w0 hnd
  have HD : Hid (Dx (w0.heap.size + 1) (some ⟨w0.heap.size, 0, none⟩) nwB 1 1 _) := ht
  have HB2 := Lib.hid (HB0.out.trans (hb1.mono HB0.out.size))
  clear ht hb1 hnd HB0
  generalize (w0.alloc (.cells #[.int .i64 2, .int .i64 0, .int .i64 0, .int .i64 0, .int .i64 0, .int .u64 k0, .int .u64 k1, .int .u64 k2, .int .u64 k3, .string ⟨#[]⟩] 58)).alloc (.cells #[.slice (some ⟨w0.heap.size, 0, none⟩) 1 1] 24) = w1 at *
  generalize w0.heap.size + 1 = bb at *
  generalize (some ⟨w0.heap.size, 0, none⟩ : Option Addr) = Ab at *
  have e0 := HD.out.load
  have CALL := Lib.hid (HD.out.isD.rpair HD.out.isD nwB_sm nwB_sm 5)
  go_wp2_with fail
  refine CALL.out.mono ?_; intro e v hp; obtain ⟨s, rfl, ho, hb⟩ := hp
  obtain ⟨Ao, co, hc, hv, hr⟩ := ho.isD
  have el : (pairL 5 nwB nwB).length = 3 := rfl
  rw [el] at hc hv
  obtain rfl : s = .slice Ao 3 co := by simpa using hv
  have hbb := hb.trans ((Below.refl _ _).alloc hb.size (.cells #[.slice Ao 3 co] 24))
  have HO : Hid (Dx v.heap.size Ao nwO 3 co _) := dx_of hr el hc
  have HD2 := Lib.hid (HD.out.later hbb)
  have B3 := Lib.hid (HB2.out.trans (hbb.mono HB2.out.size))
  clear HD HB2 CALL hb ho hr hv hc e0 el hbb
  go_upto_region 3 with (fail)
  generalize v.alloc (.cells #[.slice Ao 3 co] 24) = w3 at *
  generalize v.heap.size = bo at *
  have e0 := HD2.out.load
  have CALL := Lib.hid (HD2.out.isD.rwrap nwB_sm 8 0 0)
  go_wp2_with fail
  refine CALL.out.mono ?_; intro e v hp; obtain ⟨s, rfl, ho, hb⟩ := hp
  obtain ⟨Af, cf, hc, hv, hr⟩ := ho.isD
  have el : (wrapL 8 0 0 nwB).length = 2 := rfl
  rw [el] at hc hv
  obtain rfl : s = .slice Af 2 cf := by simpa using hv
  have hbb := hb.trans ((Below.refl _ _).alloc hb.size (.cells #[.slice Af 2 cf] 24))
  have HF : Hid (Dx v.heap.size Af nwF 2 cf _) := dx_of hr el hc
  have HD3 := Lib.hid (HD2.out.later hbb)
  have HO3 := Lib.hid (HO.out.later hbb)
  have B4 := Lib.hid (B3.out.trans (hbb.mono B3.out.size))
  clear HD2 HO B3 CALL hb ho hr hv hc e0 el hbb
  go_upto_region 4 with (fail)
  generalize v.alloc (.cells #[.slice Af 2 cf] 24) = w4 at *
  generalize v.heap.size = bf at *
  have HS : Hid (AxS w bb Ab bo Ao co bf Af cf (fun _ => True) w4) := ⟨B4.out, HD3.out, HO3.out, HF.out, trivial, fun _ _ _ _ => trivial⟩
  clear B4 HD3 HO3 HF
  have HSB : Hid (∀ w', Calls Try.prog 21 #[.agg #[.slice Ab 1 1]] w' (fun e w'' => ∃ v, e = .returned v ∧ StV (stL nwB) v w'' ∧ Below w'.heap.size w' w'')) := fun w' => start15_any nwB Ab 1 (by decide) w'
  have HSO : Hid (∀ w', Calls Try.prog 21 #[.agg #[.slice Ao 3 co]] w' (fun e w'' => ∃ v, e = .returned v ∧ StV (stL nwO) v w'' ∧ Below w'.heap.size w' w'')) := fun w' => start15_any nwO Ao co (by decide) w'
  have HSF : Hid (∀ w', Calls Try.prog 21 #[.agg #[.slice Af 2 cf]] w' (fun e w'' => ∃ v, e = .returned v ∧ StV (stL nwF) v w'' ∧ Below w'.heap.size w' w'')) := fun w' => start15_any nwF Af cf (by decide) w'
  have HNO : Hid (∀ w' B k, NRow w' Ao nwO → ItRow w' B (stL nwO) → Calls Try.prog 14 #[.agg #[.slice Ao 3 co], .slice B (stL nwO).length k, .int .u8 5] w' (fun e w'' => ∃ v, e = .returned v ∧ BrV [([], 2)] v w'' ∧ Below w'.heap.size w' w'')) := fun w' B k h1 h2 => (nxOn_any nwO Ao co (stL nwO) B k 5 nwO_rgt (by decide) nwO_txt (st_form (by decide)) (by decide) w' h1 h2).mono fun e w'' h => by
    have := brs_known (by decide) h; rw [nw_o] at this; exact this
  have HNF : Hid (∀ w' B k, NRow w' Af nwF → ItRow w' B (stL nwF) → Calls Try.prog 14 #[.agg #[.slice Af 2 cf], .slice B (stL nwF).length k, .int .u8 7] w' (fun e w'' => ∃ v, e = .returned v ∧ BrV [([⟨1, 0, 0, 0⟩, ⟨5, 0, 7, 0⟩], 1)] v w'' ∧ Below w'.heap.size w' w'')) := fun w' B k h1 h2 => (nxOn_any nwF Af cf (stL nwF) B k 7 nwF_rgt (by decide) nwF_txt (st_form (by decide)) (by decide) w' h1 h2).mono fun e w'' h => by
    have := brs_known (by decide) h; rw [nw_f] at this; exact this
  have HIB : Hid (∀ {q : List Itm}, (∀ y ∈ q, HdF nwB y) → ItOk q) := fun {q} hq => hd_itok nwB_sm.form (by decide) nwB_txt hq
  have HR6 : Hid (∀ w' B k, (stL nwB).length ≤ k → NRow w' Ab nwB → ItRow w' B (stL nwB) → Calls Try.prog 18 #[.agg #[.slice Ab 1 1], .slice B (stL nwB).length k, .int .u8 6] w' (fun e w'' => ∃ v, e = .returned v ∧ NeV true v w'' ∧ Below w'.heap.size w' w'')) := fun w' B k hk h1 h2 => (nxRead_any nwB Ab 1 (stL nwB) B k 6 (by decide) (by decide) nwB_txt (st_form (by decide)) nw_rdy (by decide) hk (HIB.out (st_form (by decide))) w' h1 h2).mono fun e w'' h => by
    have := rd_none (.inr nw_r6) h; rw [nw_r6] at this; exact this
  have HR7 : Hid (∀ w' B k, (stL nwB).length ≤ k → NRow w' Ab nwB → ItRow w' B (stL nwB) → Calls Try.prog 18 #[.agg #[.slice Ab 1 1], .slice B (stL nwB).length k, .int .u8 7] w' (fun e w'' => ∃ v, e = .returned v ∧ NeV false v w'' ∧ Below w'.heap.size w' w'')) := fun w' B k hk h1 h2 => (nxRead_any nwB Ab 1 (stL nwB) B k 7 (by decide) (by decide) nwB_txt (st_form (by decide)) nw_rdy (by decide) hk (HIB.out (st_form (by decide))) w' h1 h2).mono fun e w'' h => by
    have := rd_none (.inl nw_r7) h; rw [nw_r7] at this; exact this
  have HR8 : Hid (∀ w' B, NRow w' Ab nwB → ItRow w' B [⟨1, 0, 0, 0⟩, ⟨5, 0, 0, 0⟩] → Calls Try.prog 18 #[.agg #[.slice Ab 1 1], .slice B 2 2, .int .u8 5] w' (fun e w'' => ∃ v, e = .returned v ∧ NeV false v w'' ∧ Below w'.heap.size w' w'')) := fun w' B h1 h2 => (nxRead_any nwB Ab 1 [⟨1, 0, 0, 0⟩, ⟨5, 0, 0, 0⟩] B 2 5 (by decide) (by decide) nwB_txt nw_form nw_rdy2 (by decide) (by decide) (HIB.out nw_form) w' h1 h2).mono fun e w'' h => by
    have := rd_none (.inl nw_rs) h; rw [nw_rs] at this; exact this
  refine wp_region_stable (S := (AxS w bb Ab bo Ao co bf Af cf (fun _ => True))) (hSt := fun _ _ h hb => h.later hb) (plan := [[(2, none)], [(2, none)], [(22, some 1)], [(21, some 0), (23, some 2)], [(24, some 3)]]) (by kernel_rfl) (by kernel_rfl) (by kernel_rfl) ?hS ?_
  rotate_left
  iterate 2 first
    | (refine chain_skip (by rfl) (by rfl) ?_)
    | (apply chain_want (by rfl)
       · intro act wx hS hr
         simp at hr
         have e0 := hS.o.load
         go_simp
         (try go_ints)
         first
           | exact Done.same
      )
  (refine chain_rel (StV (stL nwO)) (StV.later (stL nwO)) (by rfl) ?_ ?_
   · intro act wx hS hr
     simp at hr
     have e0 := hS.o.load
     all_goals go_simp
     with_reducible refine Calls.mono (HSO.out _) ?_
     rintro e w' ⟨v, rfl, hv, hb⟩
     exact Done.rel hb hv
  )
  (refine chain_rel (BrV [([], 2)]) (BrV.later [([], 2)]) (by rfl) ?_ ?_
   · intro act wx hS hr
     simp at hr
     have e0 := hS.o.load
     obtain ⟨hr1, u2, hr2, B2, k2, rfl, hk2, hq2⟩ := hr
     all_goals go_simp
     with_reducible refine Calls.mono (HNO.out _ B2 k2 hS.o.row hq2) ?_
     rintro e w' ⟨v, rfl, hv, hb⟩
     exact Done.rel hb hv
  )
  (refine chain_rel (BrV [([], 2)]) (BrV.later [([], 2)]) (by rfl) ?_ ?_
   · intro act wx hS hr
     simp at hr
     have e0 := hS.o.load
     obtain ⟨u3, hr3, hv3⟩ := hr
     all_goals go_simp
     exact Done.rel (Below.refl _ _) hv3
  )
  show ∀ w', _ → _
  intro wz hz
  simp [Act.put]
  case hS => exact HS.out
  intro _ _ _ _ v4 hv4
  have HS2 := Lib.hid (hz.add hv4 (BrV.later [([], 2)] v4))
  clear hz hv4 HS
  have HS := HS2
  clear HS2
  go_upto_region 5 with (fail)
  refine wp_region_stable (S := (AxS w bb Ab bo Ao co bf Af cf (fun w => True ∧ BrV [([], 2)] v4 w))) (hSt := fun _ _ h hb => h.later hb) (plan := [[(3, none)], [(3, none)], [(26, some 1)], [(25, some 0), (27, some 2)], [(28, some 3)]]) (by kernel_rfl) (by kernel_rfl) (by kernel_rfl) ?hS ?_
  rotate_left
  iterate 2 first
    | (refine chain_skip (by rfl) (by rfl) ?_)
    | (apply chain_want (by rfl)
       · intro act wx hS hr
         simp at hr
         have e0 := hS.f.load
         go_simp
         (try go_ints)
         first
           | exact Done.same
      )
  (refine chain_rel (StV (stL nwF)) (StV.later (stL nwF)) (by rfl) ?_ ?_
   · intro act wx hS hr
     simp at hr
     have e0 := hS.f.load
     all_goals go_simp
     with_reducible refine Calls.mono (HSF.out _) ?_
     rintro e w' ⟨v, rfl, hv, hb⟩
     exact Done.rel hb hv
  )
  (refine chain_rel (BrV [([⟨1, 0, 0, 0⟩, ⟨5, 0, 7, 0⟩], 1)]) (BrV.later [([⟨1, 0, 0, 0⟩, ⟨5, 0, 7, 0⟩], 1)]) (by rfl) ?_ ?_
   · intro act wx hS hr
     simp at hr
     have e0 := hS.f.load
     obtain ⟨hr1, u2, hr2, B2, k2, rfl, hk2, hq2⟩ := hr
     all_goals go_simp
     with_reducible refine Calls.mono (HNF.out _ B2 k2 hS.f.row hq2) ?_
     rintro e w' ⟨v, rfl, hv, hb⟩
     exact Done.rel hb hv
  )
  (refine chain_rel (BrV [([⟨1, 0, 0, 0⟩, ⟨5, 0, 7, 0⟩], 1)]) (BrV.later [([⟨1, 0, 0, 0⟩, ⟨5, 0, 7, 0⟩], 1)]) (by rfl) ?_ ?_
   · intro act wx hS hr
     simp at hr
     have e0 := hS.f.load
     obtain ⟨u3, hr3, hv3⟩ := hr
     all_goals go_simp
     exact Done.rel (Below.refl _ _) hv3
  )
  show ∀ w', _ → _
  intro wz hz
  simp [Act.put]
  case hS => exact HS.out
  intro _ _ _ _ v5 hv5
  have HS2 := Lib.hid (hz.add hv5 (BrV.later [([⟨1, 0, 0, 0⟩, ⟨5, 0, 7, 0⟩], 1)] v5))
  clear hz hv5 HS
  have HS := HS2
  clear HS2
  go_upto_region 6 with (fail)
  refine wp_region_stable (S := (AxS w bb Ab bo Ao co bf Af cf (fun w => (True ∧ BrV [([], 2)] v4 w) ∧ BrV [([⟨1, 0, 0, 0⟩, ⟨5, 0, 7, 0⟩], 1)] v5 w))) (hSt := fun _ _ h hb => h.later hb) (plan := [[(1, none)], [(1, none)], [(31, some 1)], [(30, some 0), (32, some 2)], [(33, some 3)], [(29, some 4)], [(29, some 4)], [(34, some 5)], [(35, some 6)]]) (by kernel_rfl) (by kernel_rfl) (by kernel_rfl) ?hS ?_
  rotate_left
  iterate 2 first
    | (refine chain_skip (by rfl) (by rfl) ?_)
    | (apply chain_want (by rfl)
       · intro act wx hS hr
         simp at hr
         have e0 := hS.b.load
         go_simp
         (try go_ints)
         first
           | exact Done.same
      )
  (refine chain_rel (StV (stL nwB)) (StV.later (stL nwB)) (by rfl) ?_ ?_
   · intro act wx hS hr
     simp at hr
     have e0 := hS.b.load
     all_goals go_simp
     with_reducible refine Calls.mono (HSB.out _) ?_
     rintro e w' ⟨v, rfl, hv, hb⟩
     exact Done.rel hb hv
  )
  (refine chain_rel (NeV true) (NeV.later true) (by rfl) ?_ ?_
   · intro act wx hS hr
     simp at hr
     have e0 := hS.b.load
     obtain ⟨hr1, u2, hr2, B2, k2, rfl, hk2, hq2⟩ := hr
     all_goals go_simp
     with_reducible refine Calls.mono (HR6.out _ B2 k2 hk2 hS.b.row hq2) ?_
     rintro e w' ⟨v, rfl, hv, hb⟩
     exact Done.rel hb hv
  )
  (refine chain_rel (NeV true) (NeV.later true) (by rfl) ?_ ?_
   · intro act wx hS hr
     simp at hr
     have e0 := hS.b.load
     obtain ⟨u3, hr, A3, c3, rfl⟩ := hr
     all_goals go_simp
     exact Done.rel (p := NeV true) (Below.refl _ _) ⟨_, _, rfl⟩
  )
  (refine chain_rel (NlV 0) (NlV.later 0) (by rfl) ?_ ?_
   · intro act wx hS hr
     simp at hr
     have e0 := hS.b.load
     obtain ⟨u3, hr, A3, c3, rfl⟩ := hr
     all_goals go_simp
     exact Done.rel (p := NlV 0) (Below.refl _ _) ⟨_, _, rfl⟩
  )
  (refine chain_rel (NbV true) (NbV.later true) (by rfl) ?_ ?_
   · intro act wx hS hr
     simp at hr
     have e0 := hS.b.load
     obtain ⟨u3, hr, A3, c3, rfl⟩ := hr
     all_goals go_simp
     exact Done.rel (p := NbV true) (Below.refl _ _) rfl
  )
  (refine chain_rel (NlV 0) (NlV.later 0) (by rfl) ?_ ?_
   · intro act wx hS hr
     simp at hr
     have e0 := hS.b.load
     obtain ⟨u3, hr, A3, c3, rfl⟩ := hr
     all_goals go_simp
     exact Done.rel (p := NlV 0) (Below.refl _ _) ⟨_, _, rfl⟩
  )
  (refine chain_rel (NbV true) (NbV.later true) (by rfl) ?_ ?_
   · intro act wx hS hr
     simp at hr
     have e0 := hS.b.load
     obtain ⟨u3, hr, rfl⟩ := hr
     all_goals go_simp
     exact Done.rel (p := NbV true) (Below.refl _ _) rfl
  )
  show ∀ w', _ → _
  intro wz hz
  simp [Act.put]
  case hS => exact HS.out
  intro _ _ _ _ _ _ _ _ _ _ x6 hx6 x7 hx7
  obtain ⟨Ax6, cx6, rfl⟩ := hx6
  obtain rfl : x7 = .bool true := hx7
  clear HS
  have HS := Lib.hid hz
  clear hz
  go_upto_region 7 with (fail)
  refine wp_region_stable (S := (AxS w bb Ab bo Ao co bf Af cf (fun w => (True ∧ BrV [([], 2)] v4 w) ∧ BrV [([⟨1, 0, 0, 0⟩, ⟨5, 0, 7, 0⟩], 1)] v5 w))) (hSt := fun _ _ h hb => h.later hb) (plan := [[(1, none)], [(1, none)], [(38, some 1)], [(37, some 0), (39, some 2)], [(40, some 3)], [(36, some 4)], [(36, some 4)], [(41, some 5)], [(42, some 6)]]) (by kernel_rfl) (by kernel_rfl) (by kernel_rfl) ?hS ?_
  rotate_left
  iterate 2 first
    | (refine chain_skip (by rfl) (by rfl) ?_)
    | (apply chain_want (by rfl)
       · intro act wx hS hr
         simp at hr
         have e0 := hS.b.load
         go_simp
         (try go_ints)
         first
           | exact Done.same
      )
  (refine chain_rel (StV (stL nwB)) (StV.later (stL nwB)) (by rfl) ?_ ?_
   · intro act wx hS hr
     simp at hr
     have e0 := hS.b.load
     all_goals go_simp
     with_reducible refine Calls.mono (HSB.out _) ?_
     rintro e w' ⟨v, rfl, hv, hb⟩
     exact Done.rel hb hv
  )
  (refine chain_rel (NeV false) (NeV.later false) (by rfl) ?_ ?_
   · intro act wx hS hr
     simp at hr
     have e0 := hS.b.load
     obtain ⟨hr1, u2, hr2, B2, k2, rfl, hk2, hq2⟩ := hr
     all_goals go_simp
     with_reducible refine Calls.mono (HR7.out _ B2 k2 hk2 hS.b.row hq2) ?_
     rintro e w' ⟨v, rfl, hv, hb⟩
     exact Done.rel hb hv
  )
  (refine chain_rel (NeV false) (NeV.later false) (by rfl) ?_ ?_
   · intro act wx hS hr
     simp at hr
     have e0 := hS.b.load
     obtain ⟨u3, hr, A3, c3, rfl⟩ := hr
     all_goals go_simp
     exact Done.rel (p := NeV false) (Below.refl _ _) ⟨_, _, rfl⟩
  )
  (refine chain_rel (NlV 0) (NlV.later 0) (by rfl) ?_ ?_
   · intro act wx hS hr
     simp at hr
     have e0 := hS.b.load
     obtain ⟨u3, hr, A3, c3, rfl⟩ := hr
     all_goals go_simp
     exact Done.rel (p := NlV 0) (Below.refl _ _) ⟨_, _, rfl⟩
  )
  (refine chain_rel (NbV false) (NbV.later false) (by rfl) ?_ ?_
   · intro act wx hS hr
     simp at hr
     have e0 := hS.b.load
     obtain ⟨u3, hr, A3, c3, rfl⟩ := hr
     all_goals go_simp
     exact Done.rel (p := NbV false) (Below.refl _ _) rfl
  )
  (refine chain_rel (NlV 0) (NlV.later 0) (by rfl) ?_ ?_
   · intro act wx hS hr
     simp at hr
     have e0 := hS.b.load
     obtain ⟨u3, hr, A3, c3, rfl⟩ := hr
     all_goals go_simp
     exact Done.rel (p := NlV 0) (Below.refl _ _) ⟨_, _, rfl⟩
  )
  (refine chain_rel (NbV false) (NbV.later false) (by rfl) ?_ ?_
   · intro act wx hS hr
     simp at hr
     have e0 := hS.b.load
     obtain ⟨u3, hr, rfl⟩ := hr
     all_goals go_simp
     exact Done.rel (p := NbV false) (Below.refl _ _) rfl
  )
  show ∀ w', _ → _
  intro wz hz
  simp [Act.put]
  case hS => exact HS.out
  intro _ _ _ _ _ _ _ _ _ _ x8 hx8 x9 hx9
  obtain ⟨Ax8, cx8, rfl⟩ := hx8
  obtain rfl : x9 = .bool false := hx9
  clear HS
  have HS := Lib.hid hz
  clear hz
  clear HSO HSF HNO HNF HR6 HR7
  obtain ⟨⟨-, HB4⟩, HB5⟩ := HS.out.p
  obtain ⟨A4, k4, D4, rfl, q4⟩ := HB4
  obtain ⟨A6, c6, rfl⟩ := one_br q4.brs
  obtain ⟨b4, o4, rfl, -, -⟩ := q4.row 0 (Nat.zero_lt_succ _)
  obtain ⟨A5, k5, D5, rfl, q5⟩ := HB5
  obtain ⟨A7, c7, rfl⟩ := one_br q5.brs
  obtain ⟨b5, o5, rfl, -, -⟩ := q5.row 0 (Nat.zero_lt_succ _)
  have f5 := (q5.its ⟨[⟨1, 0, 0, 0⟩, ⟨5, 0, 7, 0⟩], A7, c7, 1⟩ (by simp)) 0 (Nat.zero_lt_succ _)
  obtain ⟨b7, o7, hA7, -, -⟩ := f5
  simp only at hA7
  subst hA7
  generalize [([], 2)] = T4 at *
  generalize [([(⟨1, 0, 0, 0⟩ : Itm), ⟨5, 0, 7, 0⟩], 1)] = T5 at *
  have HS2 : Hid (AxS w bb Ab bo Ao co bf Af cf (fun w => BrA T4 (some ⟨b4, o4, none⟩) [⟨[], A6, c6, 2⟩] w ∧ BrA T5 (some ⟨b5, o5, none⟩) [⟨[⟨1, 0, 0, 0⟩, ⟨5, 0, 7, 0⟩], some ⟨b7, o7, none⟩, c7, 1⟩] w) _) := ⟨HS.out.bel, HS.out.b, HS.out.o, HS.out.f, ⟨q4, q5⟩, fun _ _ h hb => ⟨h.1.later hb, h.2.later hb⟩⟩
  clear q4 q5 HS
  have HS := HS2
  clear HS2
  go_upto_region 8 with (fail)
  have e0 := HS.out.b.load
  have hbb := (Below.refl wz.heap.size wz).alloc (Nat.le_refl _) (.cells #[.int .i64 1, .int .i64 0, .int .i64 0, .int .i64 0, .int .i64 5, .int .i64 0, .int .i64 0, .int .i64 0] 44)
  have HSA := Lib.hid (HS.out.later hbb)
  have HX := Lib.hid (HR8.out _ _ HSA.out.b.row (ItRow.two (p := ⟨1, 0, 0, 0⟩) (q := ⟨5, 0, 0, 0⟩) (Blk.new wz #[.int .i64 1, .int .i64 0, .int .i64 0, .int .i64 0, .int .i64 5, .int .i64 0, .int .i64 0, .int .i64 0] 44)))
  clear hbb HS HR8
  go_wp2_with fail
  refine HX.out.mono ?_
  rintro e w9 ⟨v, rfl, ⟨A8, c8, rfl⟩, hb⟩
  have HS := Lib.hid (HSA.out.later hb)
  clear hb HX HSA e0
  go_upto_region 9 with (fail)
  have y0 := br_cell HS.out.p.2.row 0 _ rfl
  simp at y0
  obtain ⟨y0, y1⟩ := y0
  go_upto_region 11 with (fail)
  clear y0 y1
  have HQ1 : Hid (∀ w, (binOp .eql 44 (.agg #[.int .i64 1, .int .i64 0, .int .i64 0, .int .i64 0]) (.agg #[.int .i64 1, .int .i64 0, .int .i64 0, .int .i64 0])).run Try.prog w = .ok (.bool true) w) := fun w => eql_it ⟨1, 0, 0, 0⟩ ⟨1, 0, 0, 0⟩ w
  have HG1 : Hid (∀ o1 o2 w, (eqGuard .eql 44 o1 o2 (.agg #[.int .i64 1, .int .i64 0, .int .i64 0, .int .i64 0]) (.agg #[.int .i64 1, .int .i64 0, .int .i64 0, .int .i64 0])).run Try.prog w = .ok () w) := fun o1 o2 w => eqGuard_eql_it o1 o2 ⟨1, 0, 0, 0⟩ ⟨1, 0, 0, 0⟩ w
  have HQ2 : Hid (∀ w, (binOp .eql 44 (.agg #[.int .i64 5, .int .i64 0, .int .i64 7, .int .i64 0]) (.agg #[.int .i64 5, .int .i64 0, .int .i64 7, .int .i64 0])).run Try.prog w = .ok (.bool true) w) := fun w => eql_it ⟨5, 0, 7, 0⟩ ⟨5, 0, 7, 0⟩ w
  have HG2 : Hid (∀ o1 o2 w, (eqGuard .eql 44 o1 o2 (.agg #[.int .i64 5, .int .i64 0, .int .i64 7, .int .i64 0]) (.agg #[.int .i64 5, .int .i64 0, .int .i64 7, .int .i64 0])).run Try.prog w = .ok () w) := fun o1 o2 w => eqGuard_eql_it o1 o2 ⟨5, 0, 7, 0⟩ ⟨5, 0, 7, 0⟩ w
  have HE0 : Hid (∀ w', NRow w' Ab nwB → Calls Try.prog 22 #[.agg #[.slice Ab 1 1], .slice none 0 0] w' (Ans w' (.int .i64 1))) := fun w' h => by
    have := nxEnds_any nwB Ab 1 [] none 0 nwB_rgt (by decide) nwB_txt (fun y hy => by cases hy) (by decide) w' h (ItRow.nil _ _)
    rw [nw_e0] at this; exact this
  have HE1 : Hid (∀ w' B k, NRow w' Ab nwB → ItRow w' B (stL nwB) → Calls Try.prog 22 #[.agg #[.slice Ab 1 1], .slice B (stL nwB).length k] w' (Ans w' (.int .i64 0))) := fun w' B k h1 h2 => by
    have := nxEnds_any nwB Ab 1 (stL nwB) B k nwB_rgt (by decide) nwB_txt (st_form (by decide)) (by decide) w' h1 h2
    rw [nw_es] at this; exact this
  have HCB : Hid (∀ w' B k, NRow w' Ab nwB → ItRow w' B (stL nwB) → Calls Try.prog 11 #[.agg #[.slice Ab 1 1], .slice B (stL nwB).length k] w' (fun e w'' => ∃ v, e = .returned v ∧ NlV 1 v w'' ∧ Below w'.heap.size w' w'')) := fun w' B k h1 h2 => (nxClasses_any nwB Ab 1 (stL nwB) B k nwB_rgt (by decide) nwB_txt (st_form (by decide)) (by decide) w' h1 h2).mono fun e w'' h => by
    obtain ⟨v, rfl, ⟨a, c, rfl, -⟩, hb⟩ := cls_known h
    rw [nw_cb]; exact ⟨_, rfl, ⟨a, c, rfl⟩, hb⟩
  have HSF : Hid (∀ w', Calls Try.prog 21 #[.agg #[.slice Af 2 cf]] w' (fun e w'' => ∃ v, e = .returned v ∧ StV (stL nwF) v w'' ∧ Below w'.heap.size w' w'')) := fun w' => start15_any nwF Af cf (by decide) w'
  have HCF : Hid (∀ w' B k, NRow w' Af nwF → ItRow w' B (stL nwF) → Calls Try.prog 11 #[.agg #[.slice Af 2 cf], .slice B (stL nwF).length k] w' (fun e w'' => ∃ v, e = .returned v ∧ NlV 256 v w'' ∧ Below w'.heap.size w' w'')) := fun w' B k h1 h2 => (nxClasses_any nwF Af cf (stL nwF) B k nwF_rgt (by decide) nwF_txt (st_form (by decide)) (by decide) w' h1 h2).mono fun e w'' h => by
    obtain ⟨v, rfl, ⟨a, c, rfl, -⟩, hb⟩ := cls_known h
    rw [nw_cf]; exact ⟨_, rfl, ⟨a, c, rfl⟩, hb⟩
  refine wp_region_stable (S := (AxS w bb Ab bo Ao co bf Af cf (fun w => BrA T4 (some ⟨b4, o4, none⟩) [⟨[], A6, c6, 2⟩] w ∧ BrA T5 (some ⟨b5, o5, none⟩) [⟨[⟨1, 0, 0, 0⟩, ⟨5, 0, 7, 0⟩], some ⟨b7, o7, none⟩, c7, 1⟩] w))) (hSt := fun _ _ h hb => h.later hb) (plan := [[(4, none)], [(67, some 0)], [(68, some 1)], [(69, some 2)], [(70, some 3)], [(71, some 4)], [(4, none)], [(73, some 6)], [(74, some 7)], [(75, some 8)], [(76, some 9)], [(77, some 10)], [(72, some 5), (78, some 11)], [(79, some 12)], [(5, none)], [(81, some 14)], [(82, some 15)], [(83, some 16)], [(84, some 17)], [(80, some 13), (85, some 18)], [(86, some 19)], [(5, none)], [(88, some 21)], [(89, some 22)], [(90, some 23)], [(91, some 24)], [(92, some 25)], [], [(93, some 26), (94, some 27)], [(87, some 20), (95, some 28)], [(96, some 29)], [(5, none)], [(98, some 31)], [(99, some 32)], [(100, some 33)], [(101, some 34)], [(102, some 35)], [], [(103, some 36), (104, some 37)], [(97, some 30), (105, some 38)], [(106, some 39)], [(6, none)], [(108, some 41)], [(109, some 42)], [(107, some 40), (110, some 43)], [(111, some 44)], [(7, none)], [(112, some 45), (113, some 46)], [(114, some 47)], [(9, none)], [(116, some 49)], [(115, some 48), (117, some 50)], [(118, some 51)], [(11, none)], [(120, some 53)], [(119, some 52), (121, some 54)], [(122, some 55)], [(1, none)], [(124, some 57)], [(125, some 58)], [(123, some 56), (126, some 59)], [(127, some 60)], [(1, none)], [(1, none)], [(130, some 63)], [(129, some 62), (131, some 64)], [(132, some 65)], [(128, some 61), (133, some 66)], [(134, some 67)], [(1, none)], [(1, none)], [(137, some 70)], [(136, some 69), (138, some 71)], [(139, some 72)], [(140, some 73)], [(135, some 68), (141, some 74)], [(142, some 75)], [(3, none)], [(3, none)], [(145, some 78)], [(144, some 77), (146, some 79)], [(147, some 80)], [(148, some 81)], [(143, some 76), (149, some 82)], [(150, some 83)]]) (by kernel_rfl) (by kernel_rfl) (by kernel_rfl) ?hS ?_
  rotate_left
  iterate 64 first
    | (refine chain_skip (by rfl) (by rfl) ?_)
    | (apply chain_want (by rfl)
       · intro act wx hS hr
         simp at hr
         have e0 := hS.b.load
         have e1 := hS.f.load
         have x0 := br_cell hS.p.1.row 0 _ rfl
         have y0 := br_cell hS.p.2.row 0 _ rfl
         have q3 := hS.p.2.its ⟨[⟨1, 0, 0, 0⟩, ⟨5, 0, 7, 0⟩], some ⟨b7, o7, none⟩, c7, 1⟩ (by simp)
         have p0 := q3.at (i := 0) (Nat.zero_lt_succ _) rfl
         have s0 := q3.at (i := 1) (by simp) rfl
         unfold At4 at p0 s0
         simp at x0 y0 p0 s0
         obtain ⟨x0, x2⟩ := x0
         obtain ⟨y0, y2⟩ := y0
         obtain ⟨p0, p1, p2, p3⟩ := p0
         obtain ⟨s0, s1, s2, s3⟩ := s0
         have hq1 := HQ1.out
         have hg1 := HG1.out
         have hq2 := HQ2.out
         have hg2 := HG2.out
         go_simp
         (try go_ints)
         first
           | ((with_reducible refine (HE0.out _ hS.b.row).mono ?_); rintro e w' ⟨rfl, hb⟩; exact Done.mk hb)
           | (obtain ⟨hr1, v, hr2, B, k, rfl, hk, hq8⟩ := hr; simp only [hr1, hr2, Option.getD_some]; (refine (HE1.out _ B k hS.b.row hq8).mono ?_); rintro e w' ⟨rfl, hb⟩; exact Done.mk hb)
           | (obtain ⟨v, hr, A, k, rfl⟩ := hr; simp only [hr, Option.getD_some]; go_simp; exact Done.same)
           | exact Done.same
      )
  (refine chain_rel (StV (stL nwB)) (StV.later (stL nwB)) (by rfl) ?_ ?_
   · intro act wx hS hr
     simp at hr
     have e0 := hS.b.load
     have e1 := hS.f.load
     have x0 := br_cell hS.p.1.row 0 _ rfl
     have y0 := br_cell hS.p.2.row 0 _ rfl
     have q3 := hS.p.2.its ⟨[⟨1, 0, 0, 0⟩, ⟨5, 0, 7, 0⟩], some ⟨b7, o7, none⟩, c7, 1⟩ (by simp)
     have p0 := q3.at (i := 0) (Nat.zero_lt_succ _) rfl
     have s0 := q3.at (i := 1) (by simp) rfl
     unfold At4 at p0 s0
     simp at x0 y0 p0 s0
     obtain ⟨x0, x2⟩ := x0
     obtain ⟨y0, y2⟩ := y0
     obtain ⟨p0, p1, p2, p3⟩ := p0
     obtain ⟨s0, s1, s2, s3⟩ := s0
     have hq1 := HQ1.out
     have hg1 := HG1.out
     have hq2 := HQ2.out
     have hg2 := HG2.out
     all_goals go_simp
     with_reducible refine Calls.mono (HSB.out _) ?_
     rintro e w' ⟨v, rfl, hv, hb⟩
     exact Done.rel hb hv
  )
  iterate 6 first
    | (refine chain_skip (by rfl) (by rfl) ?_)
    | (apply chain_want (by rfl)
       · intro act wx hS hr
         simp at hr
         have e0 := hS.b.load
         have e1 := hS.f.load
         have x0 := br_cell hS.p.1.row 0 _ rfl
         have y0 := br_cell hS.p.2.row 0 _ rfl
         have q3 := hS.p.2.its ⟨[⟨1, 0, 0, 0⟩, ⟨5, 0, 7, 0⟩], some ⟨b7, o7, none⟩, c7, 1⟩ (by simp)
         have p0 := q3.at (i := 0) (Nat.zero_lt_succ _) rfl
         have s0 := q3.at (i := 1) (by simp) rfl
         unfold At4 at p0 s0
         simp at x0 y0 p0 s0
         obtain ⟨x0, x2⟩ := x0
         obtain ⟨y0, y2⟩ := y0
         obtain ⟨p0, p1, p2, p3⟩ := p0
         obtain ⟨s0, s1, s2, s3⟩ := s0
         have hq1 := HQ1.out
         have hg1 := HG1.out
         have hq2 := HQ2.out
         have hg2 := HG2.out
         go_simp
         (try go_ints)
         first
           | ((with_reducible refine (HE0.out _ hS.b.row).mono ?_); rintro e w' ⟨rfl, hb⟩; exact Done.mk hb)
           | (obtain ⟨hr1, v, hr2, B, k, rfl, hk, hq8⟩ := hr; simp only [hr1, hr2, Option.getD_some]; (refine (HE1.out _ B k hS.b.row hq8).mono ?_); rintro e w' ⟨rfl, hb⟩; exact Done.mk hb)
           | (obtain ⟨v, hr, A, k, rfl⟩ := hr; simp only [hr, Option.getD_some]; go_simp; exact Done.same)
           | exact Done.same
      )
  (refine chain_rel (StV (stL nwB)) (StV.later (stL nwB)) (by rfl) ?_ ?_
   · intro act wx hS hr
     simp at hr
     have e0 := hS.b.load
     have e1 := hS.f.load
     have x0 := br_cell hS.p.1.row 0 _ rfl
     have y0 := br_cell hS.p.2.row 0 _ rfl
     have q3 := hS.p.2.its ⟨[⟨1, 0, 0, 0⟩, ⟨5, 0, 7, 0⟩], some ⟨b7, o7, none⟩, c7, 1⟩ (by simp)
     have p0 := q3.at (i := 0) (Nat.zero_lt_succ _) rfl
     have s0 := q3.at (i := 1) (by simp) rfl
     unfold At4 at p0 s0
     simp at x0 y0 p0 s0
     obtain ⟨x0, x2⟩ := x0
     obtain ⟨y0, y2⟩ := y0
     obtain ⟨p0, p1, p2, p3⟩ := p0
     obtain ⟨s0, s1, s2, s3⟩ := s0
     have hq1 := HQ1.out
     have hg1 := HG1.out
     have hq2 := HQ2.out
     have hg2 := HG2.out
     all_goals go_simp
     with_reducible refine Calls.mono (HSB.out _) ?_
     rintro e w' ⟨v, rfl, hv, hb⟩
     exact Done.rel hb hv
  )
  (refine chain_rel (NlV 1) (NlV.later 1) (by rfl) ?_ ?_
   · intro act wx hS hr
     simp at hr
     have e0 := hS.b.load
     have e1 := hS.f.load
     have x0 := br_cell hS.p.1.row 0 _ rfl
     have y0 := br_cell hS.p.2.row 0 _ rfl
     have q3 := hS.p.2.its ⟨[⟨1, 0, 0, 0⟩, ⟨5, 0, 7, 0⟩], some ⟨b7, o7, none⟩, c7, 1⟩ (by simp)
     have p0 := q3.at (i := 0) (Nat.zero_lt_succ _) rfl
     have s0 := q3.at (i := 1) (by simp) rfl
     unfold At4 at p0 s0
     simp at x0 y0 p0 s0
     obtain ⟨x0, x2⟩ := x0
     obtain ⟨y0, y2⟩ := y0
     obtain ⟨p0, p1, p2, p3⟩ := p0
     obtain ⟨s0, s1, s2, s3⟩ := s0
     have hq1 := HQ1.out
     have hg1 := HG1.out
     have hq2 := HQ2.out
     have hg2 := HG2.out
     obtain ⟨hr1, u2, hr2, B2, k2, rfl, hk2, hq2⟩ := hr
     all_goals go_simp
     with_reducible refine Calls.mono (HCB.out _ B2 k2 hS.b.row hq2) ?_
     rintro e w' ⟨v, rfl, hv, hb⟩
     exact Done.rel hb hv
  )
  iterate 6 first
    | (refine chain_skip (by rfl) (by rfl) ?_)
    | (apply chain_want (by rfl)
       · intro act wx hS hr
         simp at hr
         have e0 := hS.b.load
         have e1 := hS.f.load
         have x0 := br_cell hS.p.1.row 0 _ rfl
         have y0 := br_cell hS.p.2.row 0 _ rfl
         have q3 := hS.p.2.its ⟨[⟨1, 0, 0, 0⟩, ⟨5, 0, 7, 0⟩], some ⟨b7, o7, none⟩, c7, 1⟩ (by simp)
         have p0 := q3.at (i := 0) (Nat.zero_lt_succ _) rfl
         have s0 := q3.at (i := 1) (by simp) rfl
         unfold At4 at p0 s0
         simp at x0 y0 p0 s0
         obtain ⟨x0, x2⟩ := x0
         obtain ⟨y0, y2⟩ := y0
         obtain ⟨p0, p1, p2, p3⟩ := p0
         obtain ⟨s0, s1, s2, s3⟩ := s0
         have hq1 := HQ1.out
         have hg1 := HG1.out
         have hq2 := HQ2.out
         have hg2 := HG2.out
         go_simp
         (try go_ints)
         first
           | ((with_reducible refine (HE0.out _ hS.b.row).mono ?_); rintro e w' ⟨rfl, hb⟩; exact Done.mk hb)
           | (obtain ⟨hr1, v, hr2, B, k, rfl, hk, hq8⟩ := hr; simp only [hr1, hr2, Option.getD_some]; (refine (HE1.out _ B k hS.b.row hq8).mono ?_); rintro e w' ⟨rfl, hb⟩; exact Done.mk hb)
           | (obtain ⟨v, hr, A, k, rfl⟩ := hr; simp only [hr, Option.getD_some]; go_simp; exact Done.same)
           | exact Done.same
      )
  (refine chain_rel (StV (stL nwF)) (StV.later (stL nwF)) (by rfl) ?_ ?_
   · intro act wx hS hr
     simp at hr
     have e0 := hS.b.load
     have e1 := hS.f.load
     have x0 := br_cell hS.p.1.row 0 _ rfl
     have y0 := br_cell hS.p.2.row 0 _ rfl
     have q3 := hS.p.2.its ⟨[⟨1, 0, 0, 0⟩, ⟨5, 0, 7, 0⟩], some ⟨b7, o7, none⟩, c7, 1⟩ (by simp)
     have p0 := q3.at (i := 0) (Nat.zero_lt_succ _) rfl
     have s0 := q3.at (i := 1) (by simp) rfl
     unfold At4 at p0 s0
     simp at x0 y0 p0 s0
     obtain ⟨x0, x2⟩ := x0
     obtain ⟨y0, y2⟩ := y0
     obtain ⟨p0, p1, p2, p3⟩ := p0
     obtain ⟨s0, s1, s2, s3⟩ := s0
     have hq1 := HQ1.out
     have hg1 := HG1.out
     have hq2 := HQ2.out
     have hg2 := HG2.out
     all_goals go_simp
     with_reducible refine Calls.mono (HSF.out _) ?_
     rintro e w' ⟨v, rfl, hv, hb⟩
     exact Done.rel hb hv
  )
  (refine chain_rel (NlV 256) (NlV.later 256) (by rfl) ?_ ?_
   · intro act wx hS hr
     simp at hr
     have e0 := hS.b.load
     have e1 := hS.f.load
     have x0 := br_cell hS.p.1.row 0 _ rfl
     have y0 := br_cell hS.p.2.row 0 _ rfl
     have q3 := hS.p.2.its ⟨[⟨1, 0, 0, 0⟩, ⟨5, 0, 7, 0⟩], some ⟨b7, o7, none⟩, c7, 1⟩ (by simp)
     have p0 := q3.at (i := 0) (Nat.zero_lt_succ _) rfl
     have s0 := q3.at (i := 1) (by simp) rfl
     unfold At4 at p0 s0
     simp at x0 y0 p0 s0
     obtain ⟨x0, x2⟩ := x0
     obtain ⟨y0, y2⟩ := y0
     obtain ⟨p0, p1, p2, p3⟩ := p0
     obtain ⟨s0, s1, s2, s3⟩ := s0
     have hq1 := HQ1.out
     have hg1 := HG1.out
     have hq2 := HQ2.out
     have hg2 := HG2.out
     obtain ⟨hr1, u2, hr2, B2, k2, rfl, hk2, hq2⟩ := hr
     all_goals go_simp
     with_reducible refine Calls.mono (HCF.out _ B2 k2 hS.f.row hq2) ?_
     rintro e w' ⟨v, rfl, hv, hb⟩
     exact Done.rel hb hv
  )
  iterate 4 first
    | (refine chain_skip (by rfl) (by rfl) ?_)
    | (apply chain_want (by rfl)
       · intro act wx hS hr
         simp at hr
         have e0 := hS.b.load
         have e1 := hS.f.load
         have x0 := br_cell hS.p.1.row 0 _ rfl
         have y0 := br_cell hS.p.2.row 0 _ rfl
         have q3 := hS.p.2.its ⟨[⟨1, 0, 0, 0⟩, ⟨5, 0, 7, 0⟩], some ⟨b7, o7, none⟩, c7, 1⟩ (by simp)
         have p0 := q3.at (i := 0) (Nat.zero_lt_succ _) rfl
         have s0 := q3.at (i := 1) (by simp) rfl
         unfold At4 at p0 s0
         simp at x0 y0 p0 s0
         obtain ⟨x0, x2⟩ := x0
         obtain ⟨y0, y2⟩ := y0
         obtain ⟨p0, p1, p2, p3⟩ := p0
         obtain ⟨s0, s1, s2, s3⟩ := s0
         have hq1 := HQ1.out
         have hg1 := HG1.out
         have hq2 := HQ2.out
         have hg2 := HG2.out
         go_simp
         (try go_ints)
         first
           | ((with_reducible refine (HE0.out _ hS.b.row).mono ?_); rintro e w' ⟨rfl, hb⟩; exact Done.mk hb)
           | (obtain ⟨hr1, v, hr2, B, k, rfl, hk, hq8⟩ := hr; simp only [hr1, hr2, Option.getD_some]; (refine (HE1.out _ B k hS.b.row hq8).mono ?_); rintro e w' ⟨rfl, hb⟩; exact Done.mk hb)
           | (obtain ⟨v, hr, A, k, rfl⟩ := hr; simp only [hr, Option.getD_some]; go_simp; exact Done.same)
           | exact Done.same
      )
  show ∀ w', _ → _
  intro w12 hz12
  simp [Act.put]
  case hS => exact HS.out
  intro _ _ _ _ _ _ _ _ _ _
  have HZ := Lib.hid hz12
  clear hz12
  go_wp2
  go_ret
  exact ⟨rfl, HZ.out.bel⟩
end Go.Proofs.Ytidoofdofdhjpaa
/- The twin of layer 14: what fits, what is ready. -/
namespace Go.Proofs.Ytidoofdofdhjpaa
open Go Go.RowKit
set_option linter.unusedVariables false
set_option linter.unusedSimpArgs false
set_option maxRecDepth 1000000
set_option maxHeartbeats 64000000

def fitB (l : List Nd) (s : List Itm) : Bool := decide (l.length ≤ 24) && decide (s.length ≤ 8) && stF l s
theorem fit_iff {l : List Nd} {s : List Itm} : fitB l s = true ↔ (l.length ≤ 24 ∧ s.length ≤ 8) ∧ stF l s = true := by
  unfold fitB; simp
/-- The description's box, the state. -/
structure HtwS (w0 : World) (A : Option Addr) (l : List Nd) (c : Nat) (B : Option Addr) (s : List Itm) (w : World) : Prop where
  f : FstS w0 A l c w
  rs : ItRow w B s
theorem HtwS.later {w0 w w' : World} {A B : Option Addr} {l : List Nd} {c : Nat} {s : List Itm} (h : HtwS w0 A l c B s w) (hb : Below w.heap.size w w') : HtwS w0 A l c B s w' := ⟨h.f.later hb, h.rs.later hb⟩
theorem HtwS.new {w : World} {A B : Option Addr} {l : List Nd} (c : Nat) {s : List Itm} (hrow : NRow w A l) (hs : ItRow w B s) : HtwS w A l c B s (w.alloc (.cells #[.slice A l.length c] 24)) := by
  have hb := (Below.refl w.heap.size w).alloc (Nat.le_refl _) (.cells #[.slice A l.length c] 24)
  exact ⟨⟨hb, hrow.later hb, Blk.new _ _ _⟩, hs.later hb⟩
theorem rfits14_any (l : List Nd) (A : Option Addr) (c : Nat) (s : List Itm) (B : Option Addr) (c2 : Nat) (hlen : l.length ≤ 1073741824) (hsl : s.length ≤ 9223372036854775807) (htx : Txt l) (w : World) (hrow : NRow w A l) (hs : ItRow w B s) :
    Calls Try.prog 29 #[.agg #[.slice A l.length c], .slice B s.length c2] w (Ans w (.bool (fitB l s))) := by
  have HS := Lib.hid (HtwS.new c hrow hs)
  have HTX := Lib.hid htx
  obtain ⟨v, hv⟩ : ∃ v, fitB l s = v := ⟨_, rfl⟩
  rw [hv]
  unfold fitB at hv
  have HV := Lib.hid hv
  clear hrow hs htx hv
  go_enter Try.func29, Try.ntmps29
  go_upto_region 1 with (fail)
  generalize w.alloc (.cells #[.slice A l.length c] 24) = w1 at HS ⊢
  have e0 := HS.out.f.box.cell 0
  simp at e0
  by_cases ga : l.length ≤ 24
  · have za : (l.length : Int) ≤ 24 := by omega
    by_cases gb : s.length ≤ 8
    · have zb : (s.length : Int) ≤ 8 := by omega
      have HF := Lib.hid (riform_any l A c s B c2 hlen (by omega) HTX.out w1 HS.out.f.row HS.out.rs)
      have hv := HV.out
      rw [decide_eq_true ga, decide_eq_true gb, Bool.true_and, Bool.true_and] at hv
      rw [hv] at HF
      clear hv
      go_wp2_with fail
      refine HF.out.mono ?_; rintro e w2 ⟨rfl, hb⟩
      have HB := Lib.hid (HS.out.f.bel.trans (hb.mono HS.out.f.bel.size))
      clear hb
      go_wp2
      go_ret
      exact ⟨rfl, HB.out⟩
    · have zb : ¬ (s.length : Int) ≤ 8 := by omega
      have hv := HV.out
      rw [decide_eq_true ga, decide_eq_false gb] at hv
      simp only [Bool.and_false, Bool.false_and] at hv
      subst hv
      clear ga gb
      go_wp2
      go_ret
      exact ⟨rfl, HS.out.f.bel⟩
  · have za : ¬ (l.length : Int) ≤ 24 := by omega
    have hv := HV.out
    rw [decide_eq_false ga] at hv
    simp only [Bool.false_and] at hv
    subst hv
    clear ga
    go_wp2
    go_ret
    exact ⟨rfl, HS.out.f.bel⟩
theorem rready14_any (l : List Nd) (A : Option Addr) (c : Nat) (s : List Itm) (B : Option Addr) (c2 : Nat) (h0 : 0 < l.length) (hs : ∀ y ∈ s, HdF l y) (hlen : l.length ≤ 1073741824) (hsl : s.length ≤ 1073741824) (w : World) (hrow : NRow w A l) (hss : ItRow w B s) :
    Calls Try.prog 17 #[.agg #[.slice A l.length c], .slice B s.length c2] w (Ans w (.bool (rdyS l s))) := by
  have HS := Lib.hid (HtwS.new c hrow hss)
  cases s with
  | nil =>
    clear hrow hss hs
    go_enter Try.func17, Try.ntmps17
    go_upto_region 1 with (fail)
    generalize w.alloc (.cells #[.slice A l.length c] 24) = w1 at HS ⊢
    go_wp2
    go_ret
    exact ⟨rfl, HS.out.f.bel⟩
  | cons x r =>
    obtain ⟨i, hil, hin⟩ := (hs x (List.mem_cons_self ..)).inl h0
    have hkd := (hs x (List.mem_cons_self ..)).kind
    obtain ⟨kk, nn, lo, hi'⟩ := x
    simp only at hin hkd
    subst hin
    obtain ⟨v, hv⟩ : ∃ v, rdyS l (⟨kk, (i : Int), lo, hi'⟩ :: r) = v := ⟨_, rfl⟩
    rw [hv]
    have HV := Lib.hid hv
    obtain ⟨bb, ob, rfl, -, -⟩ := HS.out.rs.four (i := 0) (by simp)
    have FX := Lib.hid (fun (w' : World) (h : ItRow w' (some ⟨bb, ob, none⟩) (⟨kk, (i : Int), lo, hi'⟩ :: r)) => h.at (i := 0) (by simp) rfl)
    obtain ⟨ba, oa, rfl, -, -⟩ := HS.out.f.row i hil
    have FN : Hid (∀ w' : World, NRow w' (some ⟨ba, oa, none⟩) l → w'.cell? ⟨ba, oa + i * 10, none⟩ = some (.int .i64 (atN l i).kind)) := fun w' h => (h.at hil rfl : At10 w' ba (oa + i * 10) (atN l i)).1
    have hlz : ((⟨kk, (i : Int), lo, hi'⟩ :: r : List Itm).length : Int) = ((r.length : Int) + 1) := by simp
    have hne : (((⟨kk, (i : Int), lo, hi'⟩ :: r : List Itm).length : Int) == 0) = false := by rw [hlz]; simp; omega
    have hlt0 : (0 : Int) < ((⟨kk, (i : Int), lo, hi'⟩ :: r : List Itm).length : Int) := by rw [hlz]; omega
    have hge0 : ¬ ((⟨kk, (i : Int), lo, hi'⟩ :: r : List Itm).length : Int) ≤ 0 := by rw [hlz]; omega
    clear hrow hss hs hv
    go_enter Try.func17, Try.ntmps17
    generalize hn : (⟨kk, (i : Int), lo, hi'⟩ :: r : List Itm).length = n at *
    have HNN := Lib.hid hn
    clear hlz hn
    go_upto_region 1 with (fail)
    generalize w.alloc (.cells #[.slice (some ⟨ba, oa, none⟩) l.length c] 24) = w1 at HS ⊢
    have x0 := (FX.out _ HS.out.rs)
    unfold At4 at x0
    simp at x0
    obtain ⟨x0, x1, x2, x3⟩ := x0
    by_cases k3 : kk = 3
    · subst k3
      have hv := HV.out
      unfold rdyS at hv
      simp at hv
      subst hv
      go_wp2
      go_ret
      exact ⟨rfl, HS.out.f.bel⟩
    · by_cases k4 : kk = 4
      · subst k4
        have hv := HV.out
        unfold rdyS at hv
        simp at hv
        subst hv
        go_wp2
        go_ret
        exact ⟨rfl, HS.out.f.bel⟩
      · have b3 : (kk == 3) = false := beq_eq_false_iff_ne.2 k3
        have b4 : (kk == 4) = false := beq_eq_false_iff_ne.2 k4
        have hilz : (i : Int) < (l.length : Int) := by omega
        have hkn : rdyS l (⟨kk, (i : Int), lo, hi'⟩ :: r) = ((kk == 1) && ((atN l i).kind == 2 || (atN l i).kind == 8 || (atN l i).kind == 9)) := by
          unfold rdyS
          simp only [decide_eq_false k3, decide_eq_false k4, Bool.false_or, Int.toNat_natCast]
          rw [Bool.eq_iff_iff]
          simp
        rw [hkn] at HV
        clear hkn
        obtain ⟨nk, hnk⟩ : ∃ nk, (atN l i).kind = nk := ⟨_, rfl⟩
        rw [hnk] at HV
        go_upto_region 3 with (fail)
        refine wp_region_stable (S := (HtwS w (some ⟨ba, oa, none⟩) l c (some ⟨bb, ob, none⟩) (⟨kk, (i : Int), lo, hi'⟩ :: r))) (hSt := fun _ _ h hb => h.later hb) (plan := [[(2, none)], [(23, some 0)], [(1, none)], [(25, some 2)], [(26, some 3)], [(27, some 4)], [(24, some 1), (28, some 5)], [(29, some 6)], [(30, some 7)], [(31, some 8)]]) (by kernel_rfl) (by kernel_rfl) (by kernel_rfl) ?hS ?_
        rotate_left
        iterate 10 first
          | (refine chain_skip (by rfl) (by rfl) ?_)
          | (apply chain_want (by rfl)
             · intro act wx hS hr
               simp at hr
               have e0 := hS.f.box.cell 0
               simp at e0
               obtain ⟨x0, x1, x2, x3⟩ := FX.out _ hS.rs
               simp at x0 x1 x2 x3
               have g0 := FN.out _ hS.f.row
               rw [hnk] at g0
               go_simp
               (try go_ints)
               first
                 | exact Done.same
            )
        show ∀ w', _ → _
        intro wz hz
        simp [Act.put]
        case hS => exact HS.out
        have HZ := Lib.hid hz
        clear hz HS hnk
        obtain ⟨x0, x1, x2, x3⟩ := FX.out _ HZ.out.rs
        simp at x0 x1 x2 x3
        have hv := HV.out
        by_cases k1 : kk = 1
        · subst k1
          simp only [show ((1 : Int) == 1) = true from rfl, Bool.true_and] at hv
          by_cases n2 : nk = 2
          · subst n2
            simp at hv
            subst hv
            go_wp2
            go_ret
            exact ⟨rfl, HZ.out.f.bel⟩
          · have c2' : (nk == 2) = false := beq_eq_false_iff_ne.2 n2
            rw [c2', Bool.false_or] at hv
            by_cases n8 : nk = 8
            · subst n8
              simp at hv
              subst hv
              go_wp2
              go_ret
              exact ⟨rfl, HZ.out.f.bel⟩
            · have c8' : (nk == 8) = false := beq_eq_false_iff_ne.2 n8
              rw [c8', Bool.false_or] at hv
              by_cases n9 : nk = 9
              · subst n9
                simp at hv
                subst hv
                go_wp2
                go_ret
                exact ⟨rfl, HZ.out.f.bel⟩
              · have c9' : (nk == 9) = false := beq_eq_false_iff_ne.2 n9
                rw [c9'] at hv
                subst hv
                go_wp2
                go_ret
                exact ⟨rfl, HZ.out.f.bel⟩
        · have b1 : (kk == 1) = false := beq_eq_false_iff_ne.2 k1
          rw [b1, Bool.false_and] at hv
          subst hv
          go_wp2
          go_ret
          exact ⟨rfl, HZ.out.f.bel⟩
end Go.Proofs.Ytidoofdofdhjpaa
/- The twin's Add, as a loop: the plain mathematics. -/
namespace Go.Proofs.Ytidoofdofdhjpaa
open Go Go.RowKit
set_option linter.unusedVariables false
set_option linter.unusedSimpArgs false

end Go.Proofs.Ytidoofdofdhjpaa
/- The statement HeadsReady: its mathematics. -/
namespace Go.Proofs.Ytidoofdofdhjpaa
open Go Go.RowKit
set_option linter.unusedVariables false
set_option linter.unusedSimpArgs false

theorem hd_ahead {T : Brs} {D : List HdE} (h : D.map brS = T) (hs : HdSrt T) {i : Nat} (hi : i + 1 < D.length) : stC (D.getD i hd0).s (D.getD (i + 1) hd0).s = -1 := by
  have h0 : ∀ j, (hj : j < D.length) → D.getD j hd0 = D[j] := fun j hj => by rw [List.getD_eq_getElem?_getD, List.getElem?_eq_getElem hj]; rfl
  rw [h0 i (by omega), h0 (i + 1) hi]
  subst h
  unfold HdSrt at hs
  rw [List.pairwise_map] at hs
  exact List.pairwise_iff_getElem.1 hs i (i + 1) (by omega) hi (by omega)
theorem hd_mem {D : List HdE} {j : Nat} (hj : j < D.length) : D.getD j hd0 ∈ D := by
  rw [List.getD_eq_getElem?_getD, List.getElem?_eq_getElem hj]; exact List.getElem_mem hj
theorem hd_here {D : List HdE} {j : Nat} (hj : j < D.length) : D[j]? = some (D.getD j hd0) := by
  rw [List.getD_eq_getElem?_getD, List.getElem?_eq_getElem hj]; rfl
end Go.Proofs.Ytidoofdofdhjpaa
