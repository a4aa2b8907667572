/- The anchor of layer 8. -/
import Derived.Test.YtgabifebcfgngaaM26
import Derived.Test.YtgabifebcfgngaaM39
import Derived.Test.YtgabifebcfgngaaM29
import Derived.Test.YtgabifebcfgngaaM31
namespace Go.Proofs.Ytgabifebcfgngaa
open Go Go.RowKit
set_option linter.unusedVariables false
set_option linter.unusedSimpArgs false
set_option maxRecDepth 100000

def anEn : Nd := ⟨1, 0, 0, 0, 0, 0#256, []⟩
def anBn : Nd := ⟨2, 0, 0, 0, 0, 0#256, []⟩
def anE : List Nd := [anEn]
def anB : List Nd := [anBn]
def anO : List Nd := pairL 5 anE anE
def anS : List Nd := wrapL 6 0 0 anB
theorem anE_sm : Sm anE := sm_one ⟨by decide, .inl rfl⟩ (.inl rfl) (by decide)
theorem anB_sm : Sm anB := sm_one ⟨by decide, .inr (.inl rfl)⟩ (.inr (.inl rfl)) (by decide)
theorem anO_sm : Sm anO := anE_sm.pair anE_sm (by decide) (.inr rfl)
theorem anS_sm : Sm anS := anB_sm.wrap (by decide) (.inl rfl)
theorem anS_right : rgB anS = true := by
  unfold rgB
  rw [(formB_iff anS).2 anS_sm.form, show (fstW anS).2 = false by decide]; rfl
end Go.Proofs.Ytgabifebcfgngaa
/- The anchor of layer 14. -/
namespace Go.Proofs.Ytgabifebcfgngaa
open Go Go.RowKit
set_option linter.unusedVariables false
set_option linter.unusedSimpArgs false
set_option maxRecDepth 100000

theorem hdStar_rgt : Rgt anS := (rgB_iff anS).1 anS_right
theorem hdOr_rgt : Rgt anO := by
  refine (rgB_iff anO).1 ?_
  unfold rgB
  rw [(formB_iff anO).2 anO_sm.form, show (fstW anO).2 = false by decide]; rfl
theorem hw_txt1 : Txt anS := fun n hn => by
  have : n = ⟨2, 0, 0, 0, 0, 0#256, []⟩ ∨ n = ⟨6, 0, 0, 0, 0, 0#256, []⟩ := by
    unfold anS wrapL anB anBn at hn; simpa using hn
  rcases this with rfl | rfl <;> simp
theorem hw_txt2 : Txt anO := fun n hn => by
  have : n.text = [] := by
    unfold anO pairL anE anEn at hn; simp at hn; rcases hn with rfl | rfl | rfl <;> rfl
  rw [this]; simp
theorem hw_star : hdsL anS (stL anS) = [([], 1), ([⟨1, 0, 0, 0⟩, ⟨1, 1, 0, 0⟩], 1)] := by decide +kernel
theorem hw_or : hdsL anO (stL anO) = [([], 2)] := by decide +kernel
theorem hw_opn : opnS anS ⟨1, (anS.length : Int) - 1, 0, 0⟩ [] = [[], [⟨1, 0, 0, 0⟩, ⟨1, 1, 0, 0⟩]] := by decide +kernel
theorem hw_dead : opnS anS ⟨5, 0, 1, 0⟩ [] = [] := by decide +kernel
theorem hw_r1 : rdyS anS (stL anS) = false := by decide +kernel
theorem hw_r2 : rdyS anB (stL anB) = true := by decide +kernel
theorem hw_r3 : rdyS anS [⟨5, 0, 1, 0⟩] = false := by decide +kernel
theorem hw_form : ∀ y ∈ [(⟨5, 0, 1, 0⟩ : Itm)], HdF anS y := stF_form (by decide +kernel)

structure AhS (w0 : World) (bb : Nat) (Ab : Option Addr) (bs_ : Nat) (As : Option Addr) (cs : Nat) (b2 : Nat) (A2 : Option Addr) (c2 : Nat) (P : World → Prop) (w : World) : Prop where
  bel : Below w0.heap.size w0 w
  b : Dx bb Ab anB 1 1 w
  s : Dx bs_ As anS 2 cs w
  o : Dx b2 A2 anO 3 c2 w
  p : P w
  pl : ∀ w w', P w → Below w.heap.size w w' → P w'
theorem AhS.later {w0 w w' : World} {bb : Nat} {Ab : Option Addr} {bs_ : Nat} {As : Option Addr} {cs : Nat} {b2 : Nat} {A2 : Option Addr} {c2 : Nat} {P : World → Prop} (h : AhS w0 bb Ab bs_ As cs b2 A2 c2 P w) (hb : Below w.heap.size w w') : AhS w0 bb Ab bs_ As cs b2 A2 c2 P w' :=
  ⟨h.bel.trans (hb.mono h.bel.size), h.b.later hb, h.s.later hb, h.o.later hb, h.pl _ _ h.p hb, h.pl⟩
theorem AhS.add {w0 w : World} {bb : Nat} {Ab : Option Addr} {bs_ : Nat} {As : Option Addr} {cs : Nat} {b2 : Nat} {A2 : Option Addr} {c2 : Nat} {P Q : World → Prop} (h : AhS w0 bb Ab bs_ As cs b2 A2 c2 P w) (hq : Q w) (hl : ∀ w w', Q w → Below w.heap.size w w' → Q w') : AhS w0 bb Ab bs_ As cs b2 A2 c2 (fun w => P w ∧ Q w) w :=
  ⟨h.bel, h.b, h.s, h.o, ⟨h.p, hq⟩, fun w w' k hb => ⟨h.pl w w' k.1 hb, hl w w' k.2 hb⟩⟩
theorem two_br {D : List HdE} {s t : List Itm} {m n : Nat} (h : D.map brS = [(s, m), (t, n)]) : ∃ A1 c1 A2 c2, D = [⟨s, A1, c1, m⟩, ⟨t, A2, c2, n⟩] := by
  match D, h with
  | [⟨a, A1, c1, x⟩, ⟨b, A2, c2, y⟩], h =>
    simp [brS] at h
    obtain ⟨⟨rfl, rfl⟩, rfl, rfl⟩ := h
    exact ⟨A1, c1, A2, c2, rfl⟩
theorem one_br {D : List HdE} {s : List Itm} {m : Nat} (h : D.map brS = [(s, m)]) : ∃ A1 c1, D = [⟨s, A1, c1, m⟩] := by
  match D, h with
  | [⟨a, A1, c1, x⟩], h =>
    simp [brS] at h
    obtain ⟨rfl, rfl⟩ := h
    exact ⟨A1, c1, rfl⟩
theorem two_st {D : List HdE} {s t : List Itm} (h : D.map HdE.s = [s, t]) : ∃ A1 c1 m A2 c2 n, D = [⟨s, A1, c1, m⟩, ⟨t, A2, c2, n⟩] := by
  match D, h with
  | [⟨a, A1, c1, x⟩, ⟨b, A2, c2, y⟩], h =>
    simp at h
    obtain ⟨rfl, rfl⟩ := h
    exact ⟨A1, c1, x, A2, c2, y, rfl⟩
theorem br_cell {w : World} {b off : Nat} {D : List HdE} (h : BrRow w (some ⟨b, off, none⟩) D) (i : Nat) (d : HdE) (hi : D[i]? = some d) : w.cell? ⟨b, off + i * 2, none⟩ = some (.slice d.A d.s.length d.cap) ∧ w.cell? ⟨b, off + i * 2 + 1, none⟩ = some (.int .i64 (d.many : Int)) := by
  obtain ⟨hlt, he⟩ := List.getElem?_eq_some_iff.1 hi
  obtain ⟨b', off', ha, -, hc⟩ := h i hlt
  cases ha
  have hd : D.getD i hd0 = d := by rw [List.getD_eq_getElem?_getD, hi]; rfl
  rw [hd] at hc
  exact ⟨hc 0 (by decide), hc 1 (by decide)⟩
theorem st_cell {T : List (List Itm)} {w : World} {b off : Nat} {D : List HdE} (h : StA T (some ⟨b, off, none⟩) D w) (i : Nat) (d : HdE) (hi : D[i]? = some d) : w.cell? ⟨b, off + i, none⟩ = some (.slice d.A d.s.length d.cap) := by
  obtain ⟨hlt, he⟩ := List.getElem?_eq_some_iff.1 hi
  obtain ⟨b', off', ha, -, hc⟩ := h.row i hlt
  cases ha
  have hd : D.getD i hd0 = d := by rw [List.getD_eq_getElem?_getD, hi]; rfl
  rw [hd] at hc
  exact hc
set_option maxHeartbeats 16000000 in
set_option maxRecDepth 1000000 in
theorem awake14_any (w : World) : Calls Try.prog 7 #[] w (Ans w (.bool true)) := by
  go_enter Try.func7, Try.ntmps7
  go_upto_region 2 with (fail)
  obtain ⟨ht, hb1⟩ := dx_one anBn w (cs := #[.int .i64 2, .int .i64 0, .int .i64 0, .int .i64 0, .int .i64 0, .int .u64 0, .int .u64 0, .int .u64 0, .int .u64 0, .string ⟨#[]⟩]) (by unfold anBn; rw [ndC_zero]; rfl)
  have HBB : Hid (Dx (w.heap.size + 1) (some ⟨w.heap.size, 0, none⟩) anB 1 1 _) := ht
  have HB1 := Lib.hid hb1
  clear ht hb1
  generalize (w.alloc (.cells #[.int .i64 2, .int .i64 0, .int .i64 0, .int .i64 0, .int .i64 0, .int .u64 0, .int .u64 0, .int .u64 0, .int .u64 0, .string ⟨#[]⟩] 48)).alloc (.cells #[.slice (some ⟨w.heap.size, 0, none⟩) 1 1] 24) = w1 at *
  generalize w.heap.size + 1 = bb at *
  generalize (some ⟨w.heap.size, 0, none⟩ : Option Addr) = Ab at *
  go_upto_region 3 with (fail)
  obtain ⟨ht, hb1⟩ := dx_one anEn w1 (cs := #[.int .i64 1, .int .i64 0, .int .i64 0, .int .i64 0, .int .i64 0, .int .u64 0, .int .u64 0, .int .u64 0, .int .u64 0, .string ⟨#[]⟩]) (by unfold anEn; rw [ndC_zero]; rfl)
  have HE : Hid (Dx (w1.heap.size + 1) (some ⟨w1.heap.size, 0, none⟩) anE 1 1 _) := ht
  have HBB2 := Lib.hid (HBB.out.later hb1)
  have HB2 := Lib.hid (HB1.out.trans (hb1.mono HB1.out.size))
  clear ht hb1 HBB HB1
  generalize (w1.alloc (.cells #[.int .i64 1, .int .i64 0, .int .i64 0, .int .i64 0, .int .i64 0, .int .u64 0, .int .u64 0, .int .u64 0, .int .u64 0, .string ⟨#[]⟩] 48)).alloc (.cells #[.slice (some ⟨w1.heap.size, 0, none⟩) 1 1] 24) = w2 at *
  generalize w1.heap.size + 1 = be at *
  generalize (some ⟨w1.heap.size, 0, none⟩ : Option Addr) = Ae at *
  have e0 := HE.out.load
  have e1 := HBB2.out.load
  have CALL := Lib.hid (HBB2.out.isD.rwrap anB_sm 6 0 0)
  go_wp2_with fail
  refine CALL.out.mono ?_; intro e v hp; obtain ⟨s, rfl, ho, hb⟩ := hp
  obtain ⟨As, cs, hc, hv, hr⟩ := ho.isD
  have el : (wrapL 6 0 0 anB).length = 2 := rfl
  rw [el] at hc hv
  obtain rfl : s = .slice As 2 cs := by simpa using hv
  have hbb := hb.trans ((Below.refl _ _).alloc hb.size (.cells #[.slice As 2 cs] 24))
  have HN3 : Hid (Dx v.heap.size As anS 2 cs _) := dx_of hr el hc
  have He3 := Lib.hid (HE.out.later hbb)
  have Hb3 := Lib.hid (HBB2.out.later hbb)
  have B3 := Lib.hid (HB2.out.trans (hbb.mono HB2.out.size))
  clear HE HBB2 HB2 CALL hb ho hr hv hc e0 e1 el hbb
  go_upto_region 4 with (fail)
  generalize v.alloc (.cells #[.slice As 2 cs] 24) = w3 at *
  generalize v.heap.size = bs_ at *
  have e0 := He3.out.load
  have e1 := Hb3.out.load
  have e2 := HN3.out.load
  have CALL := Lib.hid (He3.out.isD.rpair He3.out.isD anE_sm anE_sm 5)
  go_wp2_with fail
  refine CALL.out.mono ?_; intro e v hp; obtain ⟨s, rfl, ho, hb⟩ := hp
  obtain ⟨A2, c2, hc, hv, hr⟩ := ho.isD
  have el : (pairL 5 anE anE).length = 3 := rfl
  rw [el] at hc hv
  obtain rfl : s = .slice A2 3 c2 := by simpa using hv
  have hbb := hb.trans ((Below.refl _ _).alloc hb.size (.cells #[.slice A2 3 c2] 24))
  have HN4 : Hid (Dx v.heap.size A2 anO 3 c2 _) := dx_of hr el hc
  have Hb4 := Lib.hid (Hb3.out.later hbb)
  have Hs4 := Lib.hid (HN3.out.later hbb)
  have B4 := Lib.hid (B3.out.trans (hbb.mono B3.out.size))
  clear He3 Hb3 HN3 B3 CALL hb ho hr hv hc e0 e1 e2 el hbb
  go_upto_region 5 with (fail)
  generalize v.alloc (.cells #[.slice A2 3 c2] 24) = w4 at *
  generalize v.heap.size = b2 at *
  have HS : Hid (AhS w bb Ab bs_ As cs b2 A2 c2 (fun _ => True) w4) := ⟨B4.out, Hb4.out, Hs4.out, HN4.out, trivial, fun _ _ _ _ => trivial⟩
  clear B4 Hb4 Hs4 HN4
  have HST : Hid (∀ w', Calls Try.prog 11 #[.agg #[.slice As 2 cs]] w' (fun e w'' => ∃ v, e = .returned v ∧ StV (stL anS) v w'' ∧ Below w'.heap.size w' w'')) := fun w' => start14_any anS As cs (by decide) w'
  have HSO : Hid (∀ w', Calls Try.prog 11 #[.agg #[.slice A2 3 c2]] w' (fun e w'' => ∃ v, e = .returned v ∧ StV (stL anO) v w'' ∧ Below w'.heap.size w' w'')) := fun w' => start14_any anO A2 c2 (by decide) w'
  have HSB : Hid (∀ w', Calls Try.prog 11 #[.agg #[.slice Ab 1 1]] w' (fun e w'' => ∃ v, e = .returned v ∧ StV (stL anB) v w'' ∧ Below w'.heap.size w' w'')) := fun w' => start14_any anB Ab 1 (by decide) w'
  have HHS : Hid (∀ w' B k, NRow w' As anS → ItRow w' B (stL anS) → Calls Try.prog 10 #[.agg #[.slice As 2 cs], .slice B (stL anS).length k] w' (fun e w'' => ∃ v, e = .returned v ∧ BrV [([], 1), ([⟨1, 0, 0, 0⟩, ⟨1, 1, 0, 0⟩], 1)] v w'' ∧ Below w'.heap.size w' w'')) := fun w' B k h1 h2 => (hdHeads_any anS As cs (stL anS) B k hdStar_rgt (by decide) hw_txt1 (st_form (by decide)) (by decide) w' h1 h2).mono fun e w'' h => by
    have := hds_known h; rw [hw_star] at this; exact this
  have HHO : Hid (∀ w' B k, NRow w' A2 anO → ItRow w' B (stL anO) → Calls Try.prog 10 #[.agg #[.slice A2 3 c2], .slice B (stL anO).length k] w' (fun e w'' => ∃ v, e = .returned v ∧ BrV [([], 2)] v w'' ∧ Below w'.heap.size w' w'')) := fun w' B k h1 h2 => (hdHeads_any anO A2 c2 (stL anO) B k hdOr_rgt (by decide) hw_txt2 (st_form (by decide)) (by decide) w' h1 h2).mono fun e w'' h => by
    have := hds_known h; rw [hw_or] at this; exact this
  have HOS : Hid (∀ w' B k, (stL anS).length ≤ k → NRow w' As anS → ItRow w' B (stL anS) → Calls Try.prog 18 #[.agg #[.slice As 2 cs], .slice B (stL anS).length k] w' (fun e w'' => ∃ v, e = .returned v ∧ StsV [[], [⟨1, 0, 0, 0⟩, ⟨1, 1, 0, 0⟩]] v w'' ∧ Below w'.heap.size w' w'')) := fun w' B k hk h1 h2 => (hdOpen_any anS As cs ⟨1, (anS.length : Int) - 1, 0, 0⟩ [] B k hk hdStar_rgt (by decide) (st_form (by decide)) hw_r1 (by decide) w' h1 h2).mono fun e w'' h => by
    have := ho_known h; rw [hw_opn] at this; exact this
  have HOD : Hid (∀ w' B, NRow w' As anS → ItRow w' B [⟨5, 0, 1, 0⟩] → Calls Try.prog 18 #[.agg #[.slice As 2 cs], .slice B 1 1] w' (fun e w'' => ∃ v, e = .returned v ∧ StsV [] v w'' ∧ Below w'.heap.size w' w'')) := fun w' B h1 h2 => (hdOpen_any anS As cs ⟨5, 0, 1, 0⟩ [] B 1 (by decide) hdStar_rgt (by decide) hw_form hw_r3 (by decide) w' h1 h2).mono fun e w'' h => by
    have := ho_known h; rw [hw_dead] at this; exact this
  refine wp_region_stable (S := (AhS w bb Ab bs_ As cs b2 A2 c2 (fun _ => True))) (hSt := fun _ _ h hb => h.later hb) (plan := [[(3, none)], [(3, none)], [(21, some 1)], [(20, some 0), (22, some 2)], [(23, some 3)]]) (by kernel_rfl) (by kernel_rfl) (by kernel_rfl) ?hS ?_
  rotate_left
  iterate 2 first
    | (refine chain_skip (by rfl) (by rfl) ?_)
    | (apply chain_want (by rfl)
       · intro act wx hS hr
         simp at hr
         have e0 := hS.s.load
         go_simp
         (try go_ints)
         first
           | exact Done.same
      )
  (refine chain_rel (StV (stL anS)) (StV.later (stL anS)) (by rfl) ?_ ?_
   · intro act wx hS hr
     simp at hr
     have e0 := hS.s.load
     all_goals go_simp
     with_reducible refine Calls.mono (HST.out _) ?_
     rintro e w' ⟨v, rfl, hv, hb⟩
     exact Done.rel hb hv
  )
  (refine chain_rel (BrV [([], 1), ([⟨1, 0, 0, 0⟩, ⟨1, 1, 0, 0⟩], 1)]) (BrV.later [([], 1), ([⟨1, 0, 0, 0⟩, ⟨1, 1, 0, 0⟩], 1)]) (by rfl) ?_ ?_
   · intro act wx hS hr
     simp at hr
     have e0 := hS.s.load
     obtain ⟨hr1, u2, hr2, B2, k2, rfl, hk2, hq2⟩ := hr
     all_goals go_simp
     with_reducible refine Calls.mono (HHS.out _ B2 k2 hS.s.row hq2) ?_
     rintro e w' ⟨v, rfl, hv, hb⟩
     exact Done.rel hb hv
  )
  (refine chain_rel (BrV [([], 1), ([⟨1, 0, 0, 0⟩, ⟨1, 1, 0, 0⟩], 1)]) (BrV.later [([], 1), ([⟨1, 0, 0, 0⟩, ⟨1, 1, 0, 0⟩], 1)]) (by rfl) ?_ ?_
   · intro act wx hS hr
     simp at hr
     have e0 := hS.s.load
     obtain ⟨u3, hr3, hv3⟩ := hr
     all_goals go_simp
     exact Done.rel (Below.refl _ _) hv3
  )
  show ∀ w', _ → _
  intro wz hz
  simp [Act.put]
  case hS => exact HS.out
  intro _ _ _ _ v5 hv5
  have HS2 := Lib.hid (hz.add hv5 (BrV.later [([], 1), ([⟨1, 0, 0, 0⟩, ⟨1, 1, 0, 0⟩], 1)] v5))
  clear hz hv5 HS
  have HS := HS2
  clear HS2
  go_upto_region 6 with (fail)
  refine wp_region_stable (S := (AhS w bb Ab bs_ As cs b2 A2 c2 (fun w => True ∧ BrV [([], 1), ([⟨1, 0, 0, 0⟩, ⟨1, 1, 0, 0⟩], 1)] v5 w))) (hSt := fun _ _ h hb => h.later hb) (plan := [[(4, none)], [(4, none)], [(25, some 1)], [(24, some 0), (26, some 2)], [(27, some 3)]]) (by kernel_rfl) (by kernel_rfl) (by kernel_rfl) ?hS ?_
  rotate_left
  iterate 2 first
    | (refine chain_skip (by rfl) (by rfl) ?_)
    | (apply chain_want (by rfl)
       · intro act wx hS hr
         simp at hr
         have e0 := hS.o.load
         go_simp
         (try go_ints)
         first
           | exact Done.same
      )
  (refine chain_rel (StV (stL anO)) (StV.later (stL anO)) (by rfl) ?_ ?_
   · intro act wx hS hr
     simp at hr
     have e0 := hS.o.load
     all_goals go_simp
     with_reducible refine Calls.mono (HSO.out _) ?_
     rintro e w' ⟨v, rfl, hv, hb⟩
     exact Done.rel hb hv
  )
  (refine chain_rel (BrV [([], 2)]) (BrV.later [([], 2)]) (by rfl) ?_ ?_
   · intro act wx hS hr
     simp at hr
     have e0 := hS.o.load
     obtain ⟨hr1, u2, hr2, B2, k2, rfl, hk2, hq2⟩ := hr
     all_goals go_simp
     with_reducible refine Calls.mono (HHO.out _ B2 k2 hS.o.row hq2) ?_
     rintro e w' ⟨v, rfl, hv, hb⟩
     exact Done.rel hb hv
  )
  (refine chain_rel (BrV [([], 2)]) (BrV.later [([], 2)]) (by rfl) ?_ ?_
   · intro act wx hS hr
     simp at hr
     have e0 := hS.o.load
     obtain ⟨u3, hr3, hv3⟩ := hr
     all_goals go_simp
     exact Done.rel (Below.refl _ _) hv3
  )
  show ∀ w', _ → _
  intro wz hz
  simp [Act.put]
  case hS => exact HS.out
  intro _ _ _ _ v6 hv6
  have HS2 := Lib.hid (hz.add hv6 (BrV.later [([], 2)] v6))
  clear hz hv6 HS
  have HS := HS2
  clear HS2
  go_upto_region 7 with (fail)
  refine wp_region_stable (S := (AhS w bb Ab bs_ As cs b2 A2 c2 (fun w => (True ∧ BrV [([], 1), ([⟨1, 0, 0, 0⟩, ⟨1, 1, 0, 0⟩], 1)] v5 w) ∧ BrV [([], 2)] v6 w))) (hSt := fun _ _ h hb => h.later hb) (plan := [[(3, none)], [(3, none)], [(29, some 1)], [(28, some 0), (30, some 2)], [(31, some 3)]]) (by kernel_rfl) (by kernel_rfl) (by kernel_rfl) ?hS ?_
  rotate_left
  iterate 2 first
    | (refine chain_skip (by rfl) (by rfl) ?_)
    | (apply chain_want (by rfl)
       · intro act wx hS hr
         simp at hr
         have e0 := hS.s.load
         go_simp
         (try go_ints)
         first
           | exact Done.same
      )
  (refine chain_rel (StV (stL anS)) (StV.later (stL anS)) (by rfl) ?_ ?_
   · intro act wx hS hr
     simp at hr
     have e0 := hS.s.load
     all_goals go_simp
     with_reducible refine Calls.mono (HST.out _) ?_
     rintro e w' ⟨v, rfl, hv, hb⟩
     exact Done.rel hb hv
  )
  (refine chain_rel (StsV [[], [⟨1, 0, 0, 0⟩, ⟨1, 1, 0, 0⟩]]) (StsV.later [[], [⟨1, 0, 0, 0⟩, ⟨1, 1, 0, 0⟩]]) (by rfl) ?_ ?_
   · intro act wx hS hr
     simp at hr
     have e0 := hS.s.load
     obtain ⟨hr1, u2, hr2, B2, k2, rfl, hk2, hq2⟩ := hr
     all_goals go_simp
     with_reducible refine Calls.mono (HOS.out _ B2 k2 hk2 hS.s.row hq2) ?_
     rintro e w' ⟨v, rfl, hv, hb⟩
     exact Done.rel hb hv
  )
  (refine chain_rel (StsV [[], [⟨1, 0, 0, 0⟩, ⟨1, 1, 0, 0⟩]]) (StsV.later [[], [⟨1, 0, 0, 0⟩, ⟨1, 1, 0, 0⟩]]) (by rfl) ?_ ?_
   · intro act wx hS hr
     simp at hr
     have e0 := hS.s.load
     obtain ⟨u3, hr3, hv3⟩ := hr
     all_goals go_simp
     exact Done.rel (Below.refl _ _) hv3
  )
  show ∀ w', _ → _
  intro wz hz
  simp [Act.put]
  case hS => exact HS.out
  intro _ _ _ _ v7 hv7
  have HS2 := Lib.hid (hz.add hv7 (StsV.later [[], [⟨1, 0, 0, 0⟩, ⟨1, 1, 0, 0⟩]] v7))
  clear hz hv7 HS HHS HHO HSO HOS
  have HS := HS2
  clear HS2
  obtain ⟨⟨⟨-, HB5⟩, HB6⟩, HB7⟩ := HS.out.p
  obtain ⟨A5, k5, D5, rfl, q5⟩ := HB5
  obtain ⟨A1, c1, A3, c3, rfl⟩ := two_br q5.brs
  obtain ⟨b5, o5, rfl, -, -⟩ := q5.row 0 (Nat.zero_lt_succ _)
  have f5 := (q5.its ⟨[⟨1, 0, 0, 0⟩, ⟨1, 1, 0, 0⟩], A3, c3, 1⟩ (by simp)) 0 (Nat.zero_lt_succ _)
  obtain ⟨b3, o3, hA3, -, -⟩ := f5
  simp only at hA3
  subst hA3
  obtain ⟨A6, k6, D6, rfl, q6⟩ := HB6
  obtain ⟨A4, c4, rfl⟩ := one_br q6.brs
  obtain ⟨b6, o6, rfl, -, -⟩ := q6.row 0 (Nat.zero_lt_succ _)
  obtain ⟨A7, k7, D7, rfl, q7⟩ := HB7
  obtain ⟨A8, c8, m8, A9, c9, m9, rfl⟩ := two_st q7.sts
  obtain ⟨b7, o7, rfl, -, -⟩ := q7.row 0 (Nat.zero_lt_succ _)
  generalize [([], 1), ([(⟨1, 0, 0, 0⟩ : Itm), ⟨1, 1, 0, 0⟩], 1)] = T5 at *
  generalize [([], 2)] = T6 at *
  generalize [[], [(⟨1, 0, 0, 0⟩ : Itm), ⟨1, 1, 0, 0⟩]] = T7 at *
  have HS2 : Hid (AhS w bb Ab bs_ As cs b2 A2 c2 (fun w => BrA T5 (some ⟨b5, o5, none⟩) [⟨[], A1, c1, 1⟩, ⟨[⟨1, 0, 0, 0⟩, ⟨1, 1, 0, 0⟩], some ⟨b3, o3, none⟩, c3, 1⟩] w ∧ BrA T6 (some ⟨b6, o6, none⟩) [⟨[], A4, c4, 2⟩] w ∧ StA T7 (some ⟨b7, o7, none⟩) [⟨[], A8, c8, m8⟩, ⟨[⟨1, 0, 0, 0⟩, ⟨1, 1, 0, 0⟩], A9, c9, m9⟩] w) wz) := ⟨HS.out.bel, HS.out.b, HS.out.s, HS.out.o, ⟨q5, q6, q7⟩, fun _ _ h hb => ⟨h.1.later hb, h.2.1.later hb, h.2.2.later hb⟩⟩
  clear q5 q6 q7 HS
  have HS := HS2
  clear HS2
  go_upto_region 8 with (fail)
  have e0 := HS.out.s.load
  have hbb := (Below.refl wz.heap.size wz).alloc (Nat.le_refl _) (.cells (itV ⟨5, 0, 1, 0⟩) 43)
  have HSA := Lib.hid (HS.out.later hbb)
  have HX := Lib.hid (HOD.out _ _ HSA.out.s.row (ItRow.one (p := ⟨5, 0, 1, 0⟩) (Blk.new wz (itV ⟨5, 0, 1, 0⟩) 43)))
  clear hbb HS HOD
  go_wp2_with fail
  refine HX.out.mono ?_
  rintro e w9 ⟨v, rfl, hv, hb⟩
  obtain ⟨A, kd, D, rfl, hD⟩ := hv
  obtain rfl : D = [] := List.map_eq_nil_iff.1 hD.sts
  have HS := Lib.hid (HSA.out.later hb)
  clear hb hD HX HSA e0
  go_upto_region 9 with (fail)
  go_upto_region 11 with (fail)
  have HQ : Hid (∀ w, (binOp .eql 43 (.agg #[.int .i64 1, .int .i64 0, .int .i64 0, .int .i64 0]) (.agg #[.int .i64 1, .int .i64 0, .int .i64 0, .int .i64 0])).run Try.prog w = .ok (.bool true) w) := fun w => eql_it ⟨1, 0, 0, 0⟩ ⟨1, 0, 0, 0⟩ w
  have HG : Hid (∀ o1 o2 w, (eqGuard .eql 43 o1 o2 (.agg #[.int .i64 1, .int .i64 0, .int .i64 0, .int .i64 0]) (.agg #[.int .i64 1, .int .i64 0, .int .i64 0, .int .i64 0])).run Try.prog w = .ok () w) := fun o1 o2 w => eqGuard_eql_it o1 o2 ⟨1, 0, 0, 0⟩ ⟨1, 0, 0, 0⟩ w
  have HSM : Hid (∀ w', ItRow w' A9 [⟨1, 0, 0, 0⟩, ⟨1, 1, 0, 0⟩] → ItRow w' (some ⟨b3, o3, none⟩) [⟨1, 0, 0, 0⟩, ⟨1, 1, 0, 0⟩] → Calls Try.prog 17 #[.slice A9 2 c9, .slice (some ⟨b3, o3, none⟩) 2 c3] w' (Ans w' (.bool true))) := fun w' h1 h2 => by
    have := rstsame_any [⟨1, 0, 0, 0⟩, ⟨1, 1, 0, 0⟩] [⟨1, 0, 0, 0⟩, ⟨1, 1, 0, 0⟩] A9 (some ⟨b3, o3, none⟩) c9 c3 w' h1 h2 (by decide) (by decide)
    rw [decide_eq_true rfl] at this; exact this
  have HR0 : Hid (∀ w', NRow w' As anS → Calls Try.prog 12 #[.agg #[.slice As 2 cs], .slice none 0 0] w' (Ans w' (.bool true))) := fun w' h => hdReadyS_any anS As cs [] none 0 (by decide) (fun y hy => by cases hy) (by decide) (by decide) w' h (ItRow.nil _ _)
  have HR1 : Hid (∀ w' B k, NRow w' As anS → ItRow w' B (stL anS) → Calls Try.prog 12 #[.agg #[.slice As 2 cs], .slice B (stL anS).length k] w' (Ans w' (.bool false))) := fun w' B k h1 h2 => by
    have := hdReadyS_any anS As cs (stL anS) B k (by decide) (st_form (by decide)) (by decide) (by decide) w' h1 h2
    rw [hw_r1] at this; exact this
  have HR2 : Hid (∀ w' B k, NRow w' Ab anB → ItRow w' B (stL anB) → Calls Try.prog 12 #[.agg #[.slice Ab 1 1], .slice B (stL anB).length k] w' (Ans w' (.bool true))) := fun w' B k h1 h2 => by
    have := hdReadyS_any anB Ab 1 (stL anB) B k (by decide) (st_form (by decide)) (by decide) (by decide) w' h1 h2
    rw [hw_r2] at this; exact this
  refine wp_region_stable (S := (AhS w bb Ab bs_ As cs b2 A2 c2 (fun w => BrA T5 (some ⟨b5, o5, none⟩) [⟨[], A1, c1, 1⟩, ⟨[⟨1, 0, 0, 0⟩, ⟨1, 1, 0, 0⟩], some ⟨b3, o3, none⟩, c3, 1⟩] w ∧ BrA T6 (some ⟨b6, o6, none⟩) [⟨[], A4, c4, 2⟩] w ∧ StA T7 (some ⟨b7, o7, none⟩) [⟨[], A8, c8, m8⟩, ⟨[⟨1, 0, 0, 0⟩, ⟨1, 1, 0, 0⟩], A9, c9, m9⟩] w))) (hSt := fun _ _ h hb => h.later hb) (plan := [[(5, none)], [(49, some 0)], [(50, some 1)], [(51, some 2)], [(52, some 3)], [(53, some 4)], [(54, some 5)], [(5, none)], [(56, some 7)], [(57, some 8)], [(58, some 9)], [(59, some 10)], [(55, some 6), (60, some 11)], [(61, some 12)], [(5, none)], [(63, some 14)], [(64, some 15)], [(65, some 16)], [(66, some 17)], [(67, some 18)], [(62, some 13), (68, some 19)], [(69, some 20)], [(5, none)], [(71, some 22)], [(72, some 23)], [(73, some 24)], [(74, some 25)], [(75, some 26)], [], [(76, some 27), (77, some 28)], [(70, some 21), (78, some 29)], [(79, some 30)], [(6, none)], [(81, some 32)], [(82, some 33)], [(83, some 34)], [(84, some 35)], [(80, some 31), (85, some 36)], [(86, some 37)], [(7, none)], [(88, some 39)], [(89, some 40)], [(90, some 41)], [(91, some 42)], [(87, some 38), (92, some 43)], [(93, some 44)], [(7, none)], [(95, some 46)], [(96, some 47)], [(5, none)], [(98, some 49)], [(99, some 50)], [(100, some 51)], [(97, some 48), (101, some 52)], [(94, some 45), (102, some 53)], [(103, some 54)], [(8, none)], [(105, some 56)], [(106, some 57)], [(104, some 55), (107, some 58)], [(108, some 59)], [(3, none)], [(110, some 61)], [(109, some 60), (111, some 62)], [(112, some 63)], [(3, none)], [(3, none)], [(115, some 66)], [(114, some 65), (116, some 67)], [(117, some 68)], [(113, some 64), (118, some 69)], [(119, some 70)], [(1, none)], [(1, none)], [(122, some 73)], [(121, some 72), (123, some 74)], [(120, some 71), (124, some 75)], [(125, some 76)]]) (by kernel_rfl) (by kernel_rfl) (by kernel_rfl) ?hS ?_
  rotate_left
  iterate 67 first
    | (refine chain_skip (by rfl) (by rfl) ?_)
    | (apply chain_want (by rfl)
       · intro act wx hS hr
         simp at hr
         have e0 := hS.s.load
         have e1 := hS.b.load
         have x0 := br_cell hS.p.1.row 0 _ rfl
         have x1 := br_cell hS.p.1.row 1 _ rfl
         have y0 := br_cell hS.p.2.1.row 0 _ rfl
         have z0 := st_cell hS.p.2.2 0 _ rfl
         have z1 := st_cell hS.p.2.2 1 _ rfl
         have q3 := hS.p.1.its ⟨[⟨1, 0, 0, 0⟩, ⟨1, 1, 0, 0⟩], some ⟨b3, o3, none⟩, c3, 1⟩ (by simp)
         have q9 := hS.p.2.2.its ⟨[⟨1, 0, 0, 0⟩, ⟨1, 1, 0, 0⟩], A9, c9, m9⟩ (by simp)
         have p0 := q3.at (i := 0) (Nat.zero_lt_succ _) rfl
         unfold At4 at p0
         simp at x0 x1 y0 z0 z1 p0
         obtain ⟨x0, x2⟩ := x0
         obtain ⟨x1, x3⟩ := x1
         obtain ⟨y0, y2⟩ := y0
         obtain ⟨p0, p1, p2, p3⟩ := p0
         have hq := HQ.out
         have hg := HG.out
         go_simp
         (try go_ints)
         first
           | ((with_reducible refine (HSM.out _ q9 q3).mono ?_); rintro e w' ⟨rfl, hb⟩; exact Done.mk hb)
           | ((with_reducible refine (HR0.out _ hS.s.row).mono ?_); rintro e w' ⟨rfl, hb⟩; exact Done.mk hb)
           | (obtain ⟨hr1, v, hr2, B, k, rfl, hk, hq8⟩ := hr; simp only [hr1, hr2, Option.getD_some]; (refine (HR1.out _ B k hS.s.row hq8).mono ?_); rintro e w' ⟨rfl, hb⟩; exact Done.mk hb)
           | (obtain ⟨hr1, v, hr2, B, k, rfl, hk, hq8⟩ := hr; simp only [hr1, hr2, Option.getD_some]; (refine (HR2.out _ B k hS.b.row hq8).mono ?_); rintro e w' ⟨rfl, hb⟩; exact Done.mk hb)
           | exact Done.same
      )
  (refine chain_rel (StV (stL anS)) (StV.later (stL anS)) (by rfl) ?_ ?_
   · intro act wx hS hr
     simp at hr
     have e0 := hS.s.load
     have e1 := hS.b.load
     have x0 := br_cell hS.p.1.row 0 _ rfl
     have x1 := br_cell hS.p.1.row 1 _ rfl
     have y0 := br_cell hS.p.2.1.row 0 _ rfl
     have z0 := st_cell hS.p.2.2 0 _ rfl
     have z1 := st_cell hS.p.2.2 1 _ rfl
     have q3 := hS.p.1.its ⟨[⟨1, 0, 0, 0⟩, ⟨1, 1, 0, 0⟩], some ⟨b3, o3, none⟩, c3, 1⟩ (by simp)
     have q9 := hS.p.2.2.its ⟨[⟨1, 0, 0, 0⟩, ⟨1, 1, 0, 0⟩], A9, c9, m9⟩ (by simp)
     have p0 := q3.at (i := 0) (Nat.zero_lt_succ _) rfl
     unfold At4 at p0
     simp at x0 x1 y0 z0 z1 p0
     obtain ⟨x0, x2⟩ := x0
     obtain ⟨x1, x3⟩ := x1
     obtain ⟨y0, y2⟩ := y0
     obtain ⟨p0, p1, p2, p3⟩ := p0
     have hq := HQ.out
     have hg := HG.out
     all_goals go_simp
     with_reducible refine Calls.mono (HST.out _) ?_
     rintro e w' ⟨v, rfl, hv, hb⟩
     exact Done.rel hb hv
  )
  iterate 6 first
    | (refine chain_skip (by rfl) (by rfl) ?_)
    | (apply chain_want (by rfl)
       · intro act wx hS hr
         simp at hr
         have e0 := hS.s.load
         have e1 := hS.b.load
         have x0 := br_cell hS.p.1.row 0 _ rfl
         have x1 := br_cell hS.p.1.row 1 _ rfl
         have y0 := br_cell hS.p.2.1.row 0 _ rfl
         have z0 := st_cell hS.p.2.2 0 _ rfl
         have z1 := st_cell hS.p.2.2 1 _ rfl
         have q3 := hS.p.1.its ⟨[⟨1, 0, 0, 0⟩, ⟨1, 1, 0, 0⟩], some ⟨b3, o3, none⟩, c3, 1⟩ (by simp)
         have q9 := hS.p.2.2.its ⟨[⟨1, 0, 0, 0⟩, ⟨1, 1, 0, 0⟩], A9, c9, m9⟩ (by simp)
         have p0 := q3.at (i := 0) (Nat.zero_lt_succ _) rfl
         unfold At4 at p0
         simp at x0 x1 y0 z0 z1 p0
         obtain ⟨x0, x2⟩ := x0
         obtain ⟨x1, x3⟩ := x1
         obtain ⟨y0, y2⟩ := y0
         obtain ⟨p0, p1, p2, p3⟩ := p0
         have hq := HQ.out
         have hg := HG.out
         go_simp
         (try go_ints)
         first
           | ((with_reducible refine (HSM.out _ q9 q3).mono ?_); rintro e w' ⟨rfl, hb⟩; exact Done.mk hb)
           | ((with_reducible refine (HR0.out _ hS.s.row).mono ?_); rintro e w' ⟨rfl, hb⟩; exact Done.mk hb)
           | (obtain ⟨hr1, v, hr2, B, k, rfl, hk, hq8⟩ := hr; simp only [hr1, hr2, Option.getD_some]; (refine (HR1.out _ B k hS.s.row hq8).mono ?_); rintro e w' ⟨rfl, hb⟩; exact Done.mk hb)
           | (obtain ⟨hr1, v, hr2, B, k, rfl, hk, hq8⟩ := hr; simp only [hr1, hr2, Option.getD_some]; (refine (HR2.out _ B k hS.b.row hq8).mono ?_); rintro e w' ⟨rfl, hb⟩; exact Done.mk hb)
           | exact Done.same
      )
  (refine chain_rel (StV (stL anB)) (StV.later (stL anB)) (by rfl) ?_ ?_
   · intro act wx hS hr
     simp at hr
     have e0 := hS.s.load
     have e1 := hS.b.load
     have x0 := br_cell hS.p.1.row 0 _ rfl
     have x1 := br_cell hS.p.1.row 1 _ rfl
     have y0 := br_cell hS.p.2.1.row 0 _ rfl
     have z0 := st_cell hS.p.2.2 0 _ rfl
     have z1 := st_cell hS.p.2.2 1 _ rfl
     have q3 := hS.p.1.its ⟨[⟨1, 0, 0, 0⟩, ⟨1, 1, 0, 0⟩], some ⟨b3, o3, none⟩, c3, 1⟩ (by simp)
     have q9 := hS.p.2.2.its ⟨[⟨1, 0, 0, 0⟩, ⟨1, 1, 0, 0⟩], A9, c9, m9⟩ (by simp)
     have p0 := q3.at (i := 0) (Nat.zero_lt_succ _) rfl
     unfold At4 at p0
     simp at x0 x1 y0 z0 z1 p0
     obtain ⟨x0, x2⟩ := x0
     obtain ⟨x1, x3⟩ := x1
     obtain ⟨y0, y2⟩ := y0
     obtain ⟨p0, p1, p2, p3⟩ := p0
     have hq := HQ.out
     have hg := HG.out
     all_goals go_simp
     with_reducible refine Calls.mono (HSB.out _) ?_
     rintro e w' ⟨v, rfl, hv, hb⟩
     exact Done.rel hb hv
  )
  iterate 3 first
    | (refine chain_skip (by rfl) (by rfl) ?_)
    | (apply chain_want (by rfl)
       · intro act wx hS hr
         simp at hr
         have e0 := hS.s.load
         have e1 := hS.b.load
         have x0 := br_cell hS.p.1.row 0 _ rfl
         have x1 := br_cell hS.p.1.row 1 _ rfl
         have y0 := br_cell hS.p.2.1.row 0 _ rfl
         have z0 := st_cell hS.p.2.2 0 _ rfl
         have z1 := st_cell hS.p.2.2 1 _ rfl
         have q3 := hS.p.1.its ⟨[⟨1, 0, 0, 0⟩, ⟨1, 1, 0, 0⟩], some ⟨b3, o3, none⟩, c3, 1⟩ (by simp)
         have q9 := hS.p.2.2.its ⟨[⟨1, 0, 0, 0⟩, ⟨1, 1, 0, 0⟩], A9, c9, m9⟩ (by simp)
         have p0 := q3.at (i := 0) (Nat.zero_lt_succ _) rfl
         unfold At4 at p0
         simp at x0 x1 y0 z0 z1 p0
         obtain ⟨x0, x2⟩ := x0
         obtain ⟨x1, x3⟩ := x1
         obtain ⟨y0, y2⟩ := y0
         obtain ⟨p0, p1, p2, p3⟩ := p0
         have hq := HQ.out
         have hg := HG.out
         go_simp
         (try go_ints)
         first
           | ((with_reducible refine (HSM.out _ q9 q3).mono ?_); rintro e w' ⟨rfl, hb⟩; exact Done.mk hb)
           | ((with_reducible refine (HR0.out _ hS.s.row).mono ?_); rintro e w' ⟨rfl, hb⟩; exact Done.mk hb)
           | (obtain ⟨hr1, v, hr2, B, k, rfl, hk, hq8⟩ := hr; simp only [hr1, hr2, Option.getD_some]; (refine (HR1.out _ B k hS.s.row hq8).mono ?_); rintro e w' ⟨rfl, hb⟩; exact Done.mk hb)
           | (obtain ⟨hr1, v, hr2, B, k, rfl, hk, hq8⟩ := hr; simp only [hr1, hr2, Option.getD_some]; (refine (HR2.out _ B k hS.b.row hq8).mono ?_); rintro e w' ⟨rfl, hb⟩; exact Done.mk hb)
           | exact Done.same
      )
  show ∀ w', _ → _
  intro wz hz
  simp [Act.put]
  case hS => exact HS.out
  intro _ _ _ _
  have HZ := Lib.hid hz
  clear hz
  go_wp2
  go_ret
  exact ⟨rfl, HZ.out.bel⟩
end Go.Proofs.Ytgabifebcfgngaa
/- The statement HeadsKeeps of layer 14, walked. -/
namespace Go.Proofs.Ytgabifebcfgngaa
open Go Go.RowKit
set_option linter.unusedVariables false
set_option linter.unusedSimpArgs false
set_option maxRecDepth 1000000
set_option maxHeartbeats 64000000

/-- Rows of items that are written into, above all that stood, and the row that tells of them. -/
def HkkW (TT : TypeId) (K : Nat) (w5 : World) (A : Option Addr) (D : List HdE) (w : World) : Prop :=
  Below w5.heap.size w5 w ∧ (0 < D.length → ∃ b cur, A = some ⟨b, 0, none⟩ ∧ Blk w b cur TT ∧ ∀ i, i < D.length → cur[i * K]? = some (D.getD i hd0).v) ∧
  ∀ d ∈ D, d.s.length ≤ maxLen ∧ (0 < d.s.length → ∃ g cur, d.A = some ⟨g, 0, none⟩ ∧ w5.heap.size ≤ g ∧ Blk w g cur 43 ∧ d.s.length * 4 ≤ cur.size)
def HkkL (TT : TypeId) (K : Nat) (w5 : World) (A : Option Addr) (D : List HdE) (i : Value) (w : World) : Prop := ∃ j : Nat, j ≤ D.length ∧ i = .int .i64 (j : Int) ∧ HkkW TT K w5 A D w
def HkkM (TT : TypeId) (K : Nat) (w5 : World) (A : Option Addr) (D : List HdE) (n : Nat) (i : Value) (w : World) : Prop := ∃ j : Nat, j ≤ n ∧ i = .int .i64 (j : Int) ∧ HkkW TT K w5 A D w
theorem blk_after {w : World} {b g o : Nat} {cur : Array Value} {t : TypeId} (h : Blk w b cur t) (u : Value) : ∃ cur', Blk (w.setCell ⟨g, o, none⟩ u) b cur' t ∧ cur'.size = cur.size := by
  by_cases e : g = b
  · subst e; exact ⟨_, h.setCell o u, by simp⟩
  · exact ⟨cur, h.setCell_ne (a := ⟨g, o, none⟩) e u, rfl⟩
theorem HkkW.set {TT : TypeId} {K : Nat} {w5 w : World} {A : Option Addr} {D : List HdE} {g o : Nat} {cur : Array Value} (h : HkkW TT K w5 A D w) (hT : TT ≠ 43) (hg : w5.heap.size ≤ g) (hk : Blk w g cur 43) (u : Value) : HkkW TT K w5 A D (w.setCell ⟨g, o, none⟩ u) := by
  obtain ⟨h1, h2, h3⟩ := h
  refine ⟨h1.setCell (p := ⟨g, o, none⟩) hg _, fun hp => ?_, fun d hd => ⟨(h3 d hd).1, fun hp => ?_⟩⟩
  · obtain ⟨b, c, e1, e2, e3⟩ := h2 hp
    exact ⟨b, c, e1, e2.setCell_ne (a := ⟨g, o, none⟩) (Ne.symm (blk_typ e2 hk hT)) u, e3⟩
  · obtain ⟨g', c, e1, e2, e3, e4⟩ := (h3 d hd).2 hp
    obtain ⟨c', f1, f2⟩ := blk_after (g := g) (o := o) e3 u
    exact ⟨g', c', e1, e2, f1, by rw [f2]; exact e4⟩
theorem hk_its {w w5 : World} {D : List HdE} (h : ∀ d ∈ D, OwnIt w w5.heap.size d.v d.s) : ∀ d ∈ D, d.s.length ≤ maxLen ∧ (0 < d.s.length → ∃ g cur, d.A = some ⟨g, 0, none⟩ ∧ w5.heap.size ≤ g ∧ Blk w g cur 43 ∧ d.s.length * 4 ≤ cur.size) := fun d hd => by
  by_cases h0 : 0 < d.s.length
  · obtain ⟨g, cap, cur, hv, hg, hk, hc, hm, hs, -⟩ := OwnIt.blk (h d hd) h0
    unfold HdE.v at hv
    simp only [Value.slice.injEq] at hv
    exact ⟨Nat.le_trans hc hm, fun _ => ⟨g, cur, hv.1, hg, hk, by rw [hs]; exact Nat.mul_le_mul_right _ hc⟩⟩
  · exact ⟨by omega, fun h => absurd h h0⟩
theorem flatBr_at : ∀ (D : List HdE) (i : Nat), i < D.length → (flatBr D)[i * 2]? = some (D.getD i hd0).v
  | [], i, h => by simp at h
  | d :: D, 0, _ => rfl
  | d :: D, i + 1, h => by
    have := flatBr_at D i (by simpa using h)
    have e : flatBr (d :: D) = (brC d).toList ++ flatBr D := rfl
    rw [e, List.getElem?_append_right (by rw [show (brC d).toList.length = 2 from rfl]; omega), show (brC d).toList.length = 2 from rfl, show (i + 1) * 2 - 2 = i * 2 by omega, this]
    rfl
theorem hk_br {w w5 : World} {v : Value} {D : List HdE} (h : OwnBr w w5.heap.size v D) (hi : ∀ d ∈ D, OwnIt w w5.heap.size d.v d.s) (hb : Below w5.heap.size w5 w) : ∃ A cap, v = .slice A D.length cap ∧ HkkW 34 2 w5 A D w := by
  have hi' := hk_its hi
  obtain ⟨_, ⟨hv, hn⟩ | ⟨g, cap, cur, hv, hg, hk, hc, hm, hs, ht⟩⟩ := h
  · have : D = [] := List.length_eq_zero_iff.1 hn
    subst this
    exact ⟨none, 0, hv, hb, fun h => absurd h (by simp), hi'⟩
  · refine ⟨_, cap, hv, hb, fun _ => ⟨g, cur, rfl, hk, fun i hil => ?_⟩, hi'⟩
    have h1 : (cur.toList.take (D.length * 2))[i * 2]? = (flatBr D)[i * 2]? := by rw [ht]
    rw [List.getElem?_take, if_pos (by omega), Array.getElem?_toList, flatBr_at D i hil] at h1
    exact h1
theorem hk_st {w w5 : World} {v : Value} {D : List HdE} (h : OwnSt w w5.heap.size v D) (hi : ∀ d ∈ D, OwnIt w w5.heap.size d.v d.s) (hb : Below w5.heap.size w5 w) : ∃ A cap, v = .slice A D.length cap ∧ HkkW 30 1 w5 A D w := by
  have hi' := hk_its hi
  obtain ⟨_, ⟨hv, hn⟩ | ⟨g, cap, cur, hv, hg, hk, hc, hm, hs, ht⟩⟩ := h
  · have : D = [] := List.length_eq_zero_iff.1 hn
    subst this
    exact ⟨none, 0, hv, hb, fun h => absurd h (by simp), hi'⟩
  · refine ⟨_, cap, hv, hb, fun _ => ⟨g, cur, rfl, hk, fun i hil => ?_⟩, hi'⟩
    have h1 : (cur.toList.take (D.length * 1))[i * 1]? = (D.map HdE.v)[i * 1]? := by rw [ht]
    rw [List.getElem?_take, if_pos (by omega), Array.getElem?_toList, List.getElem?_map, Nat.mul_one, List.getElem?_eq_getElem hil] at h1
    rw [Nat.mul_one, h1, List.getD_eq_getElem?_getD, List.getElem?_eq_getElem hil]; rfl
theorem hd_in {D : List HdE} {j : Nat} (hj : j < D.length) : D.getD j hd0 ∈ D := by
  rw [List.getD_eq_getElem?_getD, List.getElem?_eq_getElem hj]; exact List.getElem_mem hj
/-- The state's copy, with room. -/
structure HkpS (w0 : World) (A : Option Addr) (l : List Nd) (c : Nat) (B O : Option Addr) (s : List Itm) (w : World) : Prop where
  h : HtwS w0 A l c B s w
  rx : ItRow w O (s ++ [⟨77, 0, 0, 0⟩])
theorem HkpS.later {w0 w w' : World} {A B O : Option Addr} {l : List Nd} {c : Nat} {s : List Itm} (h : HkpS w0 A l c B O s w) (hb : Below w.heap.size w w') : HkpS w0 A l c B O s w' := ⟨h.h.later hb, h.rx.later hb⟩
theorem HkpS.ro {w0 w : World} {A B O : Option Addr} {l : List Nd} {c : Nat} {s : List Itm} (h : HkpS w0 A l c B O s w) : ItRow w O s := fun i hi => by
  obtain ⟨b, off, h1, h2, h3⟩ := h.rx i (by rw [List.length_append]; omega)
  refine ⟨b, off, h1, h2, fun j hj => ?_⟩
  rw [h3 j hj, List.getD_eq_getElem?_getD, List.getD_eq_getElem?_getD, List.getElem?_append_left hi]
theorem headskeeps_walk (l : List Nd) (A : Option Addr) (c : Nat) (s : List Itm) (B : Option Addr) (c2 : Nat) (hc1 : l.length ≤ c) (hl : l.length ≤ 9223372036854775807) (htx : Txt l) (h1 : s.length ≤ 9223372036854775807) (w : World) (hrow : NRow w A l) (hs : ItRow w B s) :
    Calls Try.prog 5 #[.agg #[.slice A l.length c], .slice B s.length c2] w (Ans w (.bool true)) := by
  have HS : Hid (HtwS w A l c B s (w.alloc (.cells #[.slice A l.length c] 24))) := HtwS.new c hrow hs
  have HAW := Lib.hid (fun w => awake14_any w)
  have HTX := Lib.hid htx
  have HL9 := Lib.hid h1
  clear hrow hs htx h1
  go_enter Try.func5, Try.ntmps5
  go_upto_region 1 with (fail)
  generalize w.alloc (.cells #[.slice A l.length c] 24) = w1 at HS ⊢
  have e0 := HS.out.f.box.cell 0
  simp at e0
  go_wp2_with fail
  refine ((HAW.out _)).mono ?_; rintro e w2 ⟨rfl, hb⟩
  have HS2 := Lib.hid (HS.out.later hb)
  clear hb e0 HS
  have HS := HS2
  clear HS2
  have e0 := HS.out.f.box.cell 0
  simp at e0
  have HF := Lib.hid (few_any l A c hl HTX.out _ HS.out.f.row)
  cases hf : fewB l with
  | false =>
    rw [hf] at HF
    clear hf
    go_wp2_with fail
    refine ((HF.out)).mono ?_; rintro e w2 ⟨rfl, hb⟩
    have HS2 := Lib.hid (HS.out.later hb)
    clear hb e0 HS
    have HS := HS2
    clear HS2
    have e0 := HS.out.f.box.cell 0
    simp at e0
    go_wp2_with fail
    refine ((HAW.out _)).mono ?_; rintro e w2 ⟨rfl, hb⟩
    have HS2 := Lib.hid (HS.out.later hb)
    clear hb e0 HS
    have HS := HS2
    clear HS2
    have e0 := HS.out.f.box.cell 0
    simp at e0
    go_wp2
    go_ret
    exact ⟨rfl, HS.out.f.bel⟩
  | true =>
    rw [hf] at HF
    have L1 := Lib.hid (few_txt hf).1
    clear hf
    go_wp2_with fail
    refine ((HF.out)).mono ?_; rintro e w2 ⟨rfl, hb⟩
    have HS2 := Lib.hid (HS.out.later hb)
    clear hb e0 HS
    have HS := HS2
    clear HS2
    have e0 := HS.out.f.box.cell 0
    simp at e0
    clear HF
    have HF := Lib.hid (rright_any l A c hc1 (by have := L1.out; omega) HTX.out _ HS.out.f.row)
    cases hf : rgB l with
    | false =>
      rw [hf] at HF
      clear hf
      go_wp2_with fail
      refine ((HF.out)).mono ?_; rintro e w2 ⟨rfl, hb⟩
      have HS2 := Lib.hid (HS.out.later hb)
      clear hb e0 HS
      have HS := HS2
      clear HS2
      have e0 := HS.out.f.box.cell 0
      simp at e0
      go_wp2_with fail
      refine ((HAW.out _)).mono ?_; rintro e w2 ⟨rfl, hb⟩
      have HS2 := Lib.hid (HS.out.later hb)
      clear hb e0 HS
      have HS := HS2
      clear HS2
      have e0 := HS.out.f.box.cell 0
      simp at e0
      go_wp2
      go_ret
      exact ⟨rfl, HS.out.f.bel⟩
    | true =>
      rw [hf] at HF
      have HR := Lib.hid ((rgB_iff l).1 hf)
      clear hf
      go_wp2_with fail
      refine ((HF.out)).mono ?_; rintro e w2 ⟨rfl, hb⟩
      have HS2 := Lib.hid (HS.out.later hb)
      clear hb e0 HS
      have HS := HS2
      clear HS2
      have e0 := HS.out.f.box.cell 0
      simp at e0
      clear HF
      have HF := Lib.hid (rfits14_any l A c s B c2 (by have := L1.out; omega) HL9.out HTX.out _ HS.out.f.row HS.out.rs)
      cases hf : fitB l s with
      | false =>
        rw [hf] at HF
        clear hf
        go_wp2_with fail
        refine ((HF.out)).mono ?_; rintro e w2 ⟨rfl, hb⟩
        have HS2 := Lib.hid (HS.out.later hb)
        clear hb e0 HS
        have HS := HS2
        clear HS2
        have e0 := HS.out.f.box.cell 0
        simp at e0
        go_wp2_with fail
        refine ((HAW.out _)).mono ?_; rintro e w2 ⟨rfl, hb⟩
        have HS2 := Lib.hid (HS.out.later hb)
        clear hb e0 HS
        have HS := HS2
        clear HS2
        have e0 := HS.out.f.box.cell 0
        simp at e0
        go_wp2
        go_ret
        exact ⟨rfl, HS.out.f.bel⟩
      | true =>
        rw [hf] at HF
        obtain ⟨⟨hl24, hs8⟩, hst⟩ := fit_iff.1 hf
        have HFO := Lib.hid (stF_form hst)
        have HPOS : Hid (0 < l.length) := HR.out.1.1
        have HSL := Lib.hid hs8
        clear hf hst
        go_wp2_with fail
        refine ((HF.out)).mono ?_; rintro e w2 ⟨rfl, hb⟩
        have HS2 := Lib.hid (HS.out.later hb)
        clear hb e0 HS
        have HS := HS2
        clear HS2
        have e0 := HS.out.f.box.cell 0
        simp at e0
        clear HF
        go_upto_region 3 with (fail)
        have hb3 := (Below.refl w2.heap.size w2).alloc (Nat.le_refl _) (.cells #[] 43)
        have HK3 := Lib.hid (Blk.new w2 #[] 43)
        have HS3 := Lib.hid (HS.out.later hb3)
        have HB3 := Lib.hid hb3
        have HL3 := Lib.hid hb3.size
        have hsl : s.length < 1073741000 := by omega
        clear hb3
        go_wp2_with (at_builtin; first | (refine wpList_append_freshI rfl _ _ rfl w2.heap.size w2.heap.size (Nat.le_refl _) HL3.out rfl HK3.out s B c2 rfl HS3.out.rs hsl ?_; intro v' w4 h1 h2; have hba := (Below.refl w4.heap.size w4).alloc (Nat.le_refl _) (.cells (itV ⟨77, 0, 0, 0⟩) 43); have HO5 := Lib.hid (OwnIt.later h1 hba); have HN5 := Lib.hid (ItRow.one (p := ⟨77, 0, 0, 0⟩) (Blk.new w4 (itV ⟨77, 0, 0, 0⟩) 43)); have HB5 := Lib.hid ((HB3.out.trans (h2.mono HL3.out)).trans (hba.mono (Nat.le_trans HL3.out h2.size))); have HL5 := Lib.hid (Nat.le_trans (Nat.le_trans HL3.out h2.size) hba.size); clear h1 h2 hba) | (refine wpList_append_any rfl _ _ rfl w2.heap.size _ s rfl HO5.out _ 1 [⟨77, 0, 0, 0⟩] rfl HN5.out (by simp; omega) HL5.out ?_; intro v6 w6 h1 h2; have HO6 := Lib.hid h1; have HB6 := Lib.hid ((Below.refl w2.heap.size _).grown h2 HL5.out (fun k hk => (World.ownsRow.lt HO5.out k hk).1)); clear h1 h2))
        go_wp2_with (at_builtin; first | (refine wpList_append_freshI rfl _ _ rfl w2.heap.size w2.heap.size (Nat.le_refl _) HL3.out rfl HK3.out s B c2 rfl HS3.out.rs hsl ?_; intro v' w4 h1 h2; have hba := (Below.refl w4.heap.size w4).alloc (Nat.le_refl _) (.cells (itV ⟨77, 0, 0, 0⟩) 43); have HO5 := Lib.hid (OwnIt.later h1 hba); have HN5 := Lib.hid (ItRow.one (p := ⟨77, 0, 0, 0⟩) (Blk.new w4 (itV ⟨77, 0, 0, 0⟩) 43)); have HB5 := Lib.hid ((HB3.out.trans (h2.mono HL3.out)).trans (hba.mono (Nat.le_trans HL3.out h2.size))); have HL5 := Lib.hid (Nat.le_trans (Nat.le_trans HL3.out h2.size) hba.size); clear h1 h2 hba) | (refine wpList_append_any rfl _ _ rfl w2.heap.size _ s rfl HO5.out _ 1 [⟨77, 0, 0, 0⟩] rfl HN5.out (by simp; omega) HL5.out ?_; intro v6 w6 h1 h2; have HO6 := Lib.hid h1; have HB6 := Lib.hid ((Below.refl w2.heap.size _).grown h2 HL5.out (fun k hk => (World.ownsRow.lt HO5.out k hk).1)); clear h1 h2))
        obtain ⟨O, co, rfl, hco, hrx⟩ := HO6.out.row
        have HSX : Hid (HkpS w A l c B O s w6) := ⟨HS.out.later (HB5.out.trans HB6.out), hrx⟩
        obtain ⟨bo, oo, rfl, -, -⟩ := hrx 0 (by rw [List.length_append]; simp)
        have HCO : Hid (s.length ≤ co) := by rw [List.length_append] at hco; simp at hco; unfold Hid; omega
        have hcoz : (s.length : Int) ≤ (co : Int) := by have := HCO.out; omega
        have hcon := HCO.out
        have hconz : ¬ (co : Int) < (s.length : Int) := by omega
        clear hrx HO6 HB6 HB5 HO5 HN5 HL5 HS3 HK3 HB3 HL3 HS e0 hco
        have HS := HSX
        clear HSX
        have e0 := HS.out.h.f.box.cell 0
        simp at e0
        have HSA : Hid (∀ w', ItRow w' (some ⟨bo, oo, none⟩) s → ItRow w' B s → Calls Try.prog 17 #[.slice (some ⟨bo, oo, none⟩) s.length co, .slice B s.length c2] w' (Ans w' (.bool true))) := fun w' h1 h2 => by
          have := rstsame_any s s (some ⟨bo, oo, none⟩) B co c2 w' h1 h2 (by omega) (by omega)
          rw [decide_eq_true rfl] at this; exact this
        have HHD := Lib.hid (hdHeads_any l A c s (some ⟨bo, oo, none⟩) co HR.out (by omega) HTX.out HFO.out (by omega) w6 HS.out.h.f.row HS.out.ro)
        have HMB : Hid ((hdsL l s).length ≤ 1000) := by
          have h1 := hds_len HR.out HFO.out
          have h2 : s.length * l.length ≤ 8 * 24 := Nat.mul_le_mul hs8 hl24
          unfold Hid; omega
        go_upto_region 4 with (fail)
        go_upto_region 5 with (fail)
        go_wp2_with fail
        refine HHD.out.mono ?_; rintro e w7 ⟨v, D, rfl, k0, k1, k2, k3, -⟩
        have hdz : (D.length : Int) ≤ 1000 := by
          have h6 := congrArg List.length k0
          rw [List.length_map] at h6
          have := HMB.out; omega
        obtain ⟨a1, c3, rfl, hw⟩ := hk_br k1 k2 k3
        have HW0 := Lib.hid hw
        clear k0 k1 k2 k3 hw HHD e0
        go_wp2
        go_loopw [8] (HkkL 34 2 w6 a1 D) (fun i _ => D.length - (intOf i).toNat)
        case atStart => exact ⟨0, Nat.zero_le _, rfl, HW0.out⟩
        case round =>
          obtain ⟨j, hj, rfl, hh⟩ := hrel
          have HH := Lib.hid hh
          clear hh
          by_cases hlt : j < D.length
          · have hz : (j : Int) < (D.length : Int) := by omega
            have HLT := Lib.hid hlt
            have HMX := Lib.hid (fun (w' : World) (h : HkkW 34 2 w6 a1 D w') => h.2.2 _ (hd_in hlt))
            have HHD : Hid (∀ w', HkkW 34 2 w6 a1 D w' → ∃ b, a1 = some ⟨b, 0, none⟩ ∧ w'.cell? ⟨b, j * 2, none⟩ = some (D.getD j hd0).v) := fun w' h => by
              obtain ⟨b, cur, e1, e2, e3⟩ := h.2.1 (by have := HLT.out; omega)
              exact ⟨b, e1, by rw [e2.cell, e3 j HLT.out]⟩
            have hmx := (HMX.out _ HH.out).1
            generalize D.getD j hd0 = d at *
            obtain ⟨ds, dA, dcap, dm⟩ := d
            unfold HdE.v at HHD
            simp only at HHD HMX hmx
            have hmz : (ds.length : Int) ≤ 9223372036854775807 := by unfold maxLen at hmx; omega
            obtain ⟨b0, hb0, -⟩ := HHD.out _ HH.out
            clear hmx hlt hj
            subst hb0
            have HHC : Hid (∀ w', HkkW 34 2 w6 (some ⟨b0, 0, none⟩) D w' → w'.cell? ⟨b0, j * 2, none⟩ = some (.slice dA ds.length dcap)) := fun w' h => by
              obtain ⟨b, e1, e2⟩ := HHD.out w' h
              cases e1
              exact e2
            clear HHD
            have HM0 := Lib.hid HH.out
            go_wp2
            go_loopw [9] (HkkM 34 2 w6 (some ⟨b0, 0, none⟩) D ds.length) (fun i _ => ds.length - (intOf i).toNat)
            case atStart => exact ⟨0, Nat.zero_le _, rfl, HM0.out⟩
            case round =>
              obtain ⟨k, hk, rfl, hh⟩ := hrel
              have HI := Lib.hid hh
              clear hh
              have x0 := HHC.out _ HI.out
              skip
              by_cases hlk : k < ds.length
              · have hkz : (k : Int) < (ds.length : Int) := by omega
                obtain ⟨g, cur, hdA, hg, hblk, hsz⟩ := (HMX.out _ HI.out).2 (by omega)
                subst hdA
                obtain ⟨u, hu⟩ : ∃ u, cur[k * 4]? = some u := ⟨_, Array.getElem?_eq_getElem (by omega)⟩
                have hc := hblk.cell (k * 4)
                rw [hu] at hc
                have hf := hblk.frozen (k * 4)
                have HN := Lib.hid (HkkW.set (o := k * 4) HI.out (by decide) hg hblk (.int .i64 99))
                have HLK := Lib.hid hlk
                clear hblk hsz hu hlk hg hk
                go_wp2
                go_roundw
                case rel => exact ⟨k + 1, HLK.out, by go_num, HN.out⟩
                case measure => have := HLK.out; simp [intOf] <;> omega
              · have hkz : ¬ (k : Int) < (ds.length : Int) := by omega
                clear hlk hk
                go_wp2
                go_roundw
                case rel => exact ⟨j + 1, HLT.out, by go_num, HI.out⟩
                case measure => have := HLT.out; simp [intOf] <;> omega
          · have hz : ¬ (j : Int) < (D.length : Int) := by omega
            clear hlt hj
            have HS2 := Lib.hid (HS.out.later HH.out.1)
            clear HS HH HMB HW0
            have HS := HS2
            clear HS2
            have e0 := HS.out.h.f.box.cell 0
            simp at e0
            have HRD := Lib.hid (rready14_any l A c s B c2 HPOS.out HFO.out (by omega) (by omega) _ HS.out.h.f.row HS.out.h.rs)
            cases hrd : rdyS l s with
            | true =>
              rw [hrd] at HRD
              clear hrd
              go_wp2_with fail
              refine HRD.out.mono ?_; rintro e w9 ⟨rfl, hb⟩
              have HS2 := Lib.hid (HS.out.later hb)
              clear HS hb HRD
              have HS := HS2
              clear HS2
              have hn7 : (s.length : Int) < ((s ++ [(⟨77, 0, 0, 0⟩ : Itm)]).length : Int) := by rw [List.length_append, List.length_singleton]; omega
              have e7 := HS.out.rx.at (i := s.length) (by rw [List.length_append]; simp) rfl
              unfold At4 at e7
              rw [show (s ++ [(⟨77, 0, 0, 0⟩ : Itm)]).getD s.length it0 = ⟨77, 0, 0, 0⟩ by simp] at e7
              obtain ⟨e7, -, -, -⟩ := e7
              have HSM := Lib.hid (HSA.out _ HS.out.ro HS.out.h.rs)
              have HE7 : Hid (∀ w', Below w9.heap.size w9 w' → w'.cell? ⟨bo, oo + s.length * 4, none⟩ = some (.int .i64 77)) := fun w' hb => by
                have e7 := (HS.out.later hb).rx.at (i := s.length) (by rw [List.length_append]; simp) rfl
                unfold At4 at e7
                rw [show (s ++ [(⟨77, 0, 0, 0⟩ : Itm)]).getD s.length it0 = ⟨77, 0, 0, 0⟩ by simp] at e7
                exact e7.1
              clear e7
              go_wp2_with fail
              refine HSM.out.mono ?_; rintro e wy ⟨rfl, hb⟩
              have e7 := HE7.out _ hb
              have HB := Lib.hid (HS.out.h.f.bel.trans (hb.mono HS.out.h.f.bel.size))
              clear hb HE7 HSM HS
              go_wp2
              go_ret
              exact ⟨rfl, HB.out⟩
            | false =>
              rw [hrd] at HRD
              go_wp2_with fail
              refine HRD.out.mono ?_; rintro e w9 ⟨rfl, hb⟩
              have HS2 := Lib.hid (HS.out.later hb)
              clear HS hb HRD e0
              have HS := HS2
              clear HS2
              have e0 := HS.out.h.f.box.cell 0
              simp at e0
              have HOP : Hid (Calls Try.prog 18 #[.agg #[.slice A l.length c], .slice (some ⟨bo, oo, none⟩) s.length co] w9 (fun e w' => ∃ v D, e = .returned v ∧ D.length ≤ 2 ∧ OwnSt w' w9.heap.size v D ∧ (∀ d ∈ D, OwnIt w' w9.heap.size d.v d.s) ∧ Below w9.heap.size w9 w')) := by
                cases s with
                | nil => unfold rdyS at hrd; cases hrd
                | cons x r =>
                  refine (hdOpen_any l A c x r (some ⟨bo, oo, none⟩) co HCO.out HR.out (by omega) HFO.out hrd (by have := HSL.out; simp at this; omega) w9 HS.out.h.f.row HS.out.ro).mono ?_
                  rintro e w' ⟨v, D, h1, h2, h3, h4, h5⟩
                  refine ⟨v, D, h1, ?_, h3, h4, h5⟩
                  have h6 := congrArg List.length h2
                  rw [List.length_map] at h6
                  rw [h6]
                  unfold opnS
                  simp only
                  (repeat' split) <;> simp
              clear hrd
              go_wp2_with fail
              refine HOP.out.mono ?_; rintro e wx ⟨v, D2, rfl, hD2, k1, k2, k3⟩
              obtain ⟨a2, c4, rfl, hw⟩ := hk_st k1 k2 k3
              have HW0 := Lib.hid hw
              have hd2z : (D2.length : Int) ≤ 2 := by omega
              clear k1 k2 k3 hw hD2 HOP e0
              go_wp2
              go_loopw [11] (HkkL 30 1 w9 a2 D2) (fun i _ => D2.length - (intOf i).toNat)
              case atStart => exact ⟨0, Nat.zero_le _, rfl, HW0.out⟩
              case round =>
                obtain ⟨j, hj, rfl, hh⟩ := hrel
                have HH := Lib.hid hh
                clear hh
                by_cases hlt : j < D2.length
                · have hz : (j : Int) < (D2.length : Int) := by omega
                  have HLT := Lib.hid hlt
                  have HMX := Lib.hid (fun (w' : World) (h : HkkW 30 1 w9 a2 D2 w') => h.2.2 _ (hd_in hlt))
                  have HHD : Hid (∀ w', HkkW 30 1 w9 a2 D2 w' → ∃ b, a2 = some ⟨b, 0, none⟩ ∧ w'.cell? ⟨b, j * 1, none⟩ = some (D2.getD j hd0).v) := fun w' h => by
                    obtain ⟨b, cur, e1, e2, e3⟩ := h.2.1 (by have := HLT.out; omega)
                    exact ⟨b, e1, by rw [e2.cell, e3 j HLT.out]⟩
                  have hmx := (HMX.out _ HH.out).1
                  generalize D2.getD j hd0 = d at *
                  obtain ⟨ds, dA, dcap, dm⟩ := d
                  unfold HdE.v at HHD
                  simp only at HHD HMX hmx
                  have hmz : (ds.length : Int) ≤ 9223372036854775807 := by unfold maxLen at hmx; omega
                  obtain ⟨b0, hb0, -⟩ := HHD.out _ HH.out
                  clear hmx hlt hj
                  subst hb0
                  have HHC : Hid (∀ w', HkkW 30 1 w9 (some ⟨b0, 0, none⟩) D2 w' → w'.cell? ⟨b0, j * 1, none⟩ = some (.slice dA ds.length dcap)) := fun w' h => by
                    obtain ⟨b, e1, e2⟩ := HHD.out w' h
                    cases e1
                    exact e2
                  clear HHD
                  have HM0 := Lib.hid HH.out
                  go_wp2
                  go_loopw [12] (HkkM 30 1 w9 (some ⟨b0, 0, none⟩) D2 ds.length) (fun i _ => ds.length - (intOf i).toNat)
                  case atStart => exact ⟨0, Nat.zero_le _, rfl, HM0.out⟩
                  case round =>
                    obtain ⟨k, hk, rfl, hh⟩ := hrel
                    have HI := Lib.hid hh
                    clear hh
                    have x0 := HHC.out _ HI.out
                    rw [Nat.mul_one] at x0
                    by_cases hlk : k < ds.length
                    · have hkz : (k : Int) < (ds.length : Int) := by omega
                      obtain ⟨g, cur, hdA, hg, hblk, hsz⟩ := (HMX.out _ HI.out).2 (by omega)
                      subst hdA
                      obtain ⟨u, hu⟩ : ∃ u, cur[k * 4]? = some u := ⟨_, Array.getElem?_eq_getElem (by omega)⟩
                      have hc := hblk.cell (k * 4)
                      rw [hu] at hc
                      have hf := hblk.frozen (k * 4)
                      have HN := Lib.hid (HkkW.set (o := k * 4) HI.out (by decide) hg hblk (.int .i64 99))
                      have HLK := Lib.hid hlk
                      clear hblk hsz hu hlk hg hk
                      go_wp2
                      go_roundw
                      case rel => exact ⟨k + 1, HLK.out, by go_num, HN.out⟩
                      case measure => have := HLK.out; simp [intOf] <;> omega
                    · have hkz : ¬ (k : Int) < (ds.length : Int) := by omega
                      clear hlk hk
                      go_wp2
                      go_roundw
                      case rel => exact ⟨j + 1, HLT.out, by go_num, HI.out⟩
                      case measure => have := HLT.out; simp [intOf] <;> omega
                · have hz : ¬ (j : Int) < (D2.length : Int) := by omega
                  clear hlt hj
                  have HS2 := Lib.hid (HS.out.later HH.out.1)
                  clear HS HH
                  have HS := HS2
                  clear HS2
                  have hn7 : (s.length : Int) < ((s ++ [(⟨77, 0, 0, 0⟩ : Itm)]).length : Int) := by rw [List.length_append, List.length_singleton]; omega
                  have e7 := HS.out.rx.at (i := s.length) (by rw [List.length_append]; simp) rfl
                  unfold At4 at e7
                  rw [show (s ++ [(⟨77, 0, 0, 0⟩ : Itm)]).getD s.length it0 = ⟨77, 0, 0, 0⟩ by simp] at e7
                  obtain ⟨e7, -, -, -⟩ := e7
                  have HSM := Lib.hid (HSA.out _ HS.out.ro HS.out.h.rs)
                  have HE7 : Hid (∀ w', Below wr.heap.size wr w' → w'.cell? ⟨bo, oo + s.length * 4, none⟩ = some (.int .i64 77)) := fun w' hb => by
                    have e7 := (HS.out.later hb).rx.at (i := s.length) (by rw [List.length_append]; simp) rfl
                    unfold At4 at e7
                    rw [show (s ++ [(⟨77, 0, 0, 0⟩ : Itm)]).getD s.length it0 = ⟨77, 0, 0, 0⟩ by simp] at e7
                    exact e7.1
                  clear e7
                  go_wp2_with fail
                  refine HSM.out.mono ?_; rintro e wy ⟨rfl, hb⟩
                  have e7 := HE7.out _ hb
                  have HB := Lib.hid (HS.out.h.f.bel.trans (hb.mono HS.out.h.f.bel.size))
                  clear hb HE7 HSM HS
                  go_wp2
                  go_ret
                  exact ⟨rfl, HB.out⟩
end Go.Proofs.Ytgabifebcfgngaa
/- The statement HeadsReady: its mathematics. -/
namespace Go.Proofs.Ytgabifebcfgngaa
open Go Go.RowKit
set_option linter.unusedVariables false
set_option linter.unusedSimpArgs false

theorem hd_mem {D : List HdE} {j : Nat} (hj : j < D.length) : D.getD j hd0 ∈ D := by
  rw [List.getD_eq_getElem?_getD, List.getElem?_eq_getElem hj]; exact List.getElem_mem hj
theorem hd_here {D : List HdE} {j : Nat} (hj : j < D.length) : D[j]? = some (D.getD j hd0) := by
  rw [List.getD_eq_getElem?_getD, List.getElem?_eq_getElem hj]; rfl
end Go.Proofs.Ytgabifebcfgngaa
