/- The anchor of layer 8. -/
import Derived.Test.YtgabifebcfgngaaM26
import Derived.Test.YtgabifebcfgngaaM39
namespace Go.Proofs.Ytgabifebcfgngaa
open Go Go.RowKit
set_option linter.unusedVariables false
set_option linter.unusedSimpArgs false
set_option maxRecDepth 100000

def anEn : Nd := ⟨1, 0, 0, 0, 0, 0#256, []⟩
def anBn : Nd := ⟨2, 0, 0, 0, 0, 0#256, []⟩
def anE : List Nd := [anEn]
def anB : List Nd := [anBn]
def anO : List Nd := pairL 5 anE anE
def anS : List Nd := wrapL 6 0 0 anB
theorem anE_sm : Sm anE := sm_one ⟨by decide, .inl rfl⟩ (.inl rfl) (by decide)
theorem anB_sm : Sm anB := sm_one ⟨by decide, .inr (.inl rfl)⟩ (.inr (.inl rfl)) (by decide)
theorem anO_sm : Sm anO := anE_sm.pair anE_sm (by decide) (.inr rfl)
theorem anS_sm : Sm anS := anB_sm.wrap (by decide) (.inl rfl)
theorem anS_right : rgB anS = true := by
  unfold rgB
  rw [(formB_iff anS).2 anS_sm.form, show (fstW anS).2 = false by decide]; rfl
end Go.Proofs.Ytgabifebcfgngaa
/- The anchor of layer 14. -/
namespace Go.Proofs.Ytgabifebcfgngaa
open Go Go.RowKit
set_option linter.unusedVariables false
set_option linter.unusedSimpArgs false
set_option maxRecDepth 100000

theorem hdStar_rgt : Rgt anS := (rgB_iff anS).1 anS_right
theorem hdOr_rgt : Rgt anO := by
  refine (rgB_iff anO).1 ?_
  unfold rgB
  rw [(formB_iff anO).2 anO_sm.form, show (fstW anO).2 = false by decide]; rfl
theorem hw_txt1 : Txt anS := fun n hn => by
  have : n = ⟨2, 0, 0, 0, 0, 0#256, []⟩ ∨ n = ⟨6, 0, 0, 0, 0, 0#256, []⟩ := by
    unfold anS wrapL anB anBn at hn; simpa using hn
  rcases this with rfl | rfl <;> simp
theorem hw_txt2 : Txt anO := fun n hn => by
  have : n.text = [] := by
    unfold anO pairL anE anEn at hn; simp at hn; rcases hn with rfl | rfl | rfl <;> rfl
  rw [this]; simp
theorem hw_star : hdsL anS (stL anS) = [([], 1), ([⟨1, 0, 0, 0⟩, ⟨1, 1, 0, 0⟩], 1)] := by decide +kernel
theorem hw_or : hdsL anO (stL anO) = [([], 2)] := by decide +kernel
theorem hw_opn : opnS anS ⟨1, (anS.length : Int) - 1, 0, 0⟩ [] = [[], [⟨1, 0, 0, 0⟩, ⟨1, 1, 0, 0⟩]] := by decide +kernel
theorem hw_dead : opnS anS ⟨5, 0, 1, 0⟩ [] = [] := by decide +kernel
theorem hw_r1 : rdyS anS (stL anS) = false := by decide +kernel
theorem hw_r2 : rdyS anB (stL anB) = true := by decide +kernel
theorem hw_r3 : rdyS anS [⟨5, 0, 1, 0⟩] = false := by decide +kernel
theorem hw_form : ∀ y ∈ [(⟨5, 0, 1, 0⟩ : Itm)], HdF anS y := stF_form (by decide +kernel)

structure AhS (w0 : World) (bb : Nat) (Ab : Option Addr) (bs_ : Nat) (As : Option Addr) (cs : Nat) (b2 : Nat) (A2 : Option Addr) (c2 : Nat) (P : World → Prop) (w : World) : Prop where
  bel : Below w0.heap.size w0 w
  b : Dx bb Ab anB 1 1 w
  s : Dx bs_ As anS 2 cs w
  o : Dx b2 A2 anO 3 c2 w
  p : P w
  pl : ∀ w w', P w → Below w.heap.size w w' → P w'
theorem AhS.later {w0 w w' : World} {bb : Nat} {Ab : Option Addr} {bs_ : Nat} {As : Option Addr} {cs : Nat} {b2 : Nat} {A2 : Option Addr} {c2 : Nat} {P : World → Prop} (h : AhS w0 bb Ab bs_ As cs b2 A2 c2 P w) (hb : Below w.heap.size w w') : AhS w0 bb Ab bs_ As cs b2 A2 c2 P w' :=
  ⟨h.bel.trans (hb.mono h.bel.size), h.b.later hb, h.s.later hb, h.o.later hb, h.pl _ _ h.p hb, h.pl⟩
theorem AhS.add {w0 w : World} {bb : Nat} {Ab : Option Addr} {bs_ : Nat} {As : Option Addr} {cs : Nat} {b2 : Nat} {A2 : Option Addr} {c2 : Nat} {P Q : World → Prop} (h : AhS w0 bb Ab bs_ As cs b2 A2 c2 P w) (hq : Q w) (hl : ∀ w w', Q w → Below w.heap.size w w' → Q w') : AhS w0 bb Ab bs_ As cs b2 A2 c2 (fun w => P w ∧ Q w) w :=
  ⟨h.bel, h.b, h.s, h.o, ⟨h.p, hq⟩, fun w w' k hb => ⟨h.pl w w' k.1 hb, hl w w' k.2 hb⟩⟩
theorem two_br {D : List HdE} {s t : List Itm} {m n : Nat} (h : D.map brS = [(s, m), (t, n)]) : ∃ A1 c1 A2 c2, D = [⟨s, A1, c1, m⟩, ⟨t, A2, c2, n⟩] := by
  match D, h with
  | [⟨a, A1, c1, x⟩, ⟨b, A2, c2, y⟩], h =>
    simp [brS] at h
    obtain ⟨⟨rfl, rfl⟩, rfl, rfl⟩ := h
    exact ⟨A1, c1, A2, c2, rfl⟩
theorem one_br {D : List HdE} {s : List Itm} {m : Nat} (h : D.map brS = [(s, m)]) : ∃ A1 c1, D = [⟨s, A1, c1, m⟩] := by
  match D, h with
  | [⟨a, A1, c1, x⟩], h =>
    simp [brS] at h
    obtain ⟨rfl, rfl⟩ := h
    exact ⟨A1, c1, rfl⟩
theorem two_st {D : List HdE} {s t : List Itm} (h : D.map HdE.s = [s, t]) : ∃ A1 c1 m A2 c2 n, D = [⟨s, A1, c1, m⟩, ⟨t, A2, c2, n⟩] := by
  match D, h with
  | [⟨a, A1, c1, x⟩, ⟨b, A2, c2, y⟩], h =>
    simp at h
    obtain ⟨rfl, rfl⟩ := h
    exact ⟨A1, c1, x, A2, c2, y, rfl⟩
theorem br_cell {w : World} {b off : Nat} {D : List HdE} (h : BrRow w (some ⟨b, off, none⟩) D) (i : Nat) (d : HdE) (hi : D[i]? = some d) : w.cell? ⟨b, off + i * 2, none⟩ = some (.slice d.A d.s.length d.cap) ∧ w.cell? ⟨b, off + i * 2 + 1, none⟩ = some (.int .i64 (d.many : Int)) := by
  obtain ⟨hlt, he⟩ := List.getElem?_eq_some_iff.1 hi
  obtain ⟨b', off', ha, -, hc⟩ := h i hlt
  cases ha
  have hd : D.getD i hd0 = d := by rw [List.getD_eq_getElem?_getD, hi]; rfl
  rw [hd] at hc
  exact ⟨hc 0 (by decide), hc 1 (by decide)⟩
theorem st_cell {T : List (List Itm)} {w : World} {b off : Nat} {D : List HdE} (h : StA T (some ⟨b, off, none⟩) D w) (i : Nat) (d : HdE) (hi : D[i]? = some d) : w.cell? ⟨b, off + i, none⟩ = some (.slice d.A d.s.length d.cap) := by
  obtain ⟨hlt, he⟩ := List.getElem?_eq_some_iff.1 hi
  obtain ⟨b', off', ha, -, hc⟩ := h.row i hlt
  cases ha
  have hd : D.getD i hd0 = d := by rw [List.getD_eq_getElem?_getD, hi]; rfl
  rw [hd] at hc
  exact hc
set_option maxHeartbeats 16000000 in
set_option maxRecDepth 1000000 in
theorem awake14_any (w : World) : Calls Try.prog 7 #[] w (Ans w (.bool true)) := by
  go_enter Try.func7, Try.ntmps7
  go_upto_region 2 with (fail)
  obtain ⟨ht, hb1⟩ := dx_one anBn w (cs := #[.int .i64 2, .int .i64 0, .int .i64 0, .int .i64 0, .int .i64 0, .int .u64 0, .int .u64 0, .int .u64 0, .int .u64 0, .string ⟨#[]⟩]) (by unfold anBn; rw [ndC_zero]; rfl)
  have HBB : Hid (Dx (w.heap.size + 1) (some ⟨w.heap.size, 0, none⟩) anB 1 1 _) := ht
  have HB1 := Lib.hid hb1
  clear ht hb1
  generalize (w.alloc (.cells #[.int .i64 2, .int .i64 0, .int .i64 0, .int .i64 0, .int .i64 0, .int .u64 0, .int .u64 0, .int .u64 0, .int .u64 0, .string ⟨#[]⟩] 48)).alloc (.cells #[.slice (some ⟨w.heap.size, 0, none⟩) 1 1] 24) = w1 at *
  generalize w.heap.size + 1 = bb at *
  generalize (some ⟨w.heap.size, 0, none⟩ : Option Addr) = Ab at *
  go_upto_region 3 with (fail)
  obtain ⟨ht, hb1⟩ := dx_one anEn w1 (cs := #[.int .i64 1, .int .i64 0, .int .i64 0, .int .i64 0, .int .i64 0, .int .u64 0, .int .u64 0, .int .u64 0, .int .u64 0, .string ⟨#[]⟩]) (by unfold anEn; rw [ndC_zero]; rfl)
  have HE : Hid (Dx (w1.heap.size + 1) (some ⟨w1.heap.size, 0, none⟩) anE 1 1 _) := ht
  have HBB2 := Lib.hid (HBB.out.later hb1)
  have HB2 := Lib.hid (HB1.out.trans (hb1.mono HB1.out.size))
  clear ht hb1 HBB HB1
  generalize (w1.alloc (.cells #[.int .i64 1, .int .i64 0, .int .i64 0, .int .i64 0, .int .i64 0, .int .u64 0, .int .u64 0, .int .u64 0, .int .u64 0, .string ⟨#[]⟩] 48)).alloc (.cells #[.slice (some ⟨w1.heap.size, 0, none⟩) 1 1] 24) = w2 at *
  generalize w1.heap.size + 1 = be at *
  generalize (some ⟨w1.heap.size, 0, none⟩ : Option Addr) = Ae at *
  have e0 := HE.out.load
  have e1 := HBB2.out.load
  have CALL := Lib.hid (HBB2.out.isD.rwrap anB_sm 6 0 0)
  go_wp2_with fail
  refine CALL.out.mono ?_; intro e v hp; obtain ⟨s, rfl, ho, hb⟩ := hp
  obtain ⟨As, cs, hc, hv, hr⟩ := ho.isD
  have el : (wrapL 6 0 0 anB).length = 2 := rfl
  rw [el] at hc hv
  obtain rfl : s = .slice As 2 cs := by simpa using hv
  have hbb := hb.trans ((Below.refl _ _).alloc hb.size (.cells #[.slice As 2 cs] 24))
  have HN3 : Hid (Dx v.heap.size As anS 2 cs _) := dx_of hr el hc
  have He3 := Lib.hid (HE.out.later hbb)
  have Hb3 := Lib.hid (HBB2.out.later hbb)
  have B3 := Lib.hid (HB2.out.trans (hbb.mono HB2.out.size))
  clear HE HBB2 HB2 CALL hb ho hr hv hc e0 e1 el hbb
  go_upto_region 4 with (fail)
  generalize v.alloc (.cells #[.slice As 2 cs] 24) = w3 at *
  generalize v.heap.size = bs_ at *
  have e0 := He3.out.load
  have e1 := Hb3.out.load
  have e2 := HN3.out.load
  have CALL := Lib.hid (He3.out.isD.rpair He3.out.isD anE_sm anE_sm 5)
  go_wp2_with fail
  refine CALL.out.mono ?_; intro e v hp; obtain ⟨s, rfl, ho, hb⟩ := hp
  obtain ⟨A2, c2, hc, hv, hr⟩ := ho.isD
  have el : (pairL 5 anE anE).length = 3 := rfl
  rw [el] at hc hv
  obtain rfl : s = .slice A2 3 c2 := by simpa using hv
  have hbb := hb.trans ((Below.refl _ _).alloc hb.size (.cells #[.slice A2 3 c2] 24))
  have HN4 : Hid (Dx v.heap.size A2 anO 3 c2 _) := dx_of hr el hc
  have Hb4 := Lib.hid (Hb3.out.later hbb)
  have Hs4 := Lib.hid (HN3.out.later hbb)
  have B4 := Lib.hid (B3.out.trans (hbb.mono B3.out.size))
  clear He3 Hb3 HN3 B3 CALL hb ho hr hv hc e0 e1 e2 el hbb
  go_upto_region 5 with (fail)
  generalize v.alloc (.cells #[.slice A2 3 c2] 24) = w4 at *
  generalize v.heap.size = b2 at *
  have HS : Hid (AhS w bb Ab bs_ As cs b2 A2 c2 (fun _ => True) w4) := ⟨B4.out, Hb4.out, Hs4.out, HN4.out, trivial, fun _ _ _ _ => trivial⟩
  clear B4 Hb4 Hs4 HN4
  have HST : Hid (∀ w', Calls Try.prog 11 #[.agg #[.slice As 2 cs]] w' (fun e w'' => ∃ v, e = .returned v ∧ StV (stL anS) v w'' ∧ Below w'.heap.size w' w'')) := fun w' => start14_any anS As cs (by decide) w'
  have HSO : Hid (∀ w', Calls Try.prog 11 #[.agg #[.slice A2 3 c2]] w' (fun e w'' => ∃ v, e = .returned v ∧ StV (stL anO) v w'' ∧ Below w'.heap.size w' w'')) := fun w' => start14_any anO A2 c2 (by decide) w'
  have HSB : Hid (∀ w', Calls Try.prog 11 #[.agg #[.slice Ab 1 1]] w' (fun e w'' => ∃ v, e = .returned v ∧ StV (stL anB) v w'' ∧ Below w'.heap.size w' w'')) := fun w' => start14_any anB Ab 1 (by decide) w'
  have HHS : Hid (∀ w' B k, NRow w' As anS → ItRow w' B (stL anS) → Calls Try.prog 10 #[.agg #[.slice As 2 cs], .slice B (stL anS).length k] w' (fun e w'' => ∃ v, e = .returned v ∧ BrV [([], 1), ([⟨1, 0, 0, 0⟩, ⟨1, 1, 0, 0⟩], 1)] v w'' ∧ Below w'.heap.size w' w'')) := fun w' B k h1 h2 => (hdHeads_any anS As cs (stL anS) B k hdStar_rgt (by decide) hw_txt1 (st_form (by decide)) (by decide) w' h1 h2).mono fun e w'' h => by
    have := hds_known h; rw [hw_star] at this; exact this
  have HHO : Hid (∀ w' B k, NRow w' A2 anO → ItRow w' B (stL anO) → Calls Try.prog 10 #[.agg #[.slice A2 3 c2], .slice B (stL anO).length k] w' (fun e w'' => ∃ v, e = .returned v ∧ BrV [([], 2)] v w'' ∧ Below w'.heap.size w' w'')) := fun w' B k h1 h2 => (hdHeads_any anO A2 c2 (stL anO) B k hdOr_rgt (by decide) hw_txt2 (st_form (by decide)) (by decide) w' h1 h2).mono fun e w'' h => by
    have := hds_known h; rw [hw_or] at this; exact this
  have HOS : Hid (∀ w' B k, (stL anS).length ≤ k → NRow w' As anS → ItRow w' B (stL anS) → Calls Try.prog 18 #[.agg #[.slice As 2 cs], .slice B (stL anS).length k] w' (fun e w'' => ∃ v, e = .returned v ∧ StsV [[], [⟨1, 0, 0, 0⟩, ⟨1, 1, 0, 0⟩]] v w'' ∧ Below w'.heap.size w' w'')) := fun w' B k hk h1 h2 => (hdOpen_any anS As cs ⟨1, (anS.length : Int) - 1, 0, 0⟩ [] B k hk hdStar_rgt (by decide) (st_form (by decide)) hw_r1 (by decide) w' h1 h2).mono fun e w'' h => by
    have := ho_known h; rw [hw_opn] at this; exact this
  have HOD : Hid (∀ w' B, NRow w' As anS → ItRow w' B [⟨5, 0, 1, 0⟩] → Calls Try.prog 18 #[.agg #[.slice As 2 cs], .slice B 1 1] w' (fun e w'' => ∃ v, e = .returned v ∧ StsV [] v w'' ∧ Below w'.heap.size w' w'')) := fun w' B h1 h2 => (hdOpen_any anS As cs ⟨5, 0, 1, 0⟩ [] B 1 (by decide) hdStar_rgt (by decide) hw_form hw_r3 (by decide) w' h1 h2).mono fun e w'' h => by
    have := ho_known h; rw [hw_dead] at this; exact this
  refine wp_region_stable (S := (AhS w bb Ab bs_ As cs b2 A2 c2 (fun _ => True))) (hSt := fun _ _ h hb => h.later hb) (plan := [[(3, none)], [(3, none)], [(21, some 1)], [(20, some 0), (22, some 2)], [(23, some 3)]]) (by kernel_rfl) (by kernel_rfl) (by kernel_rfl) ?hS ?_
  rotate_left
  iterate 2 first
    | (refine chain_skip (by rfl) (by rfl) ?_)
    | (apply chain_want (by rfl)
       · intro act wx hS hr
         simp at hr
         have e0 := hS.s.load
         go_simp
         (try go_ints)
         first
           | exact Done.same
      )
  (refine chain_rel (StV (stL anS)) (StV.later (stL anS)) (by rfl) ?_ ?_
   · intro act wx hS hr
     simp at hr
     have e0 := hS.s.load
     all_goals go_simp
     with_reducible refine Calls.mono (HST.out _) ?_
     rintro e w' ⟨v, rfl, hv, hb⟩
     exact Done.rel hb hv
  )
  (refine chain_rel (BrV [([], 1), ([⟨1, 0, 0, 0⟩, ⟨1, 1, 0, 0⟩], 1)]) (BrV.later [([], 1), ([⟨1, 0, 0, 0⟩, ⟨1, 1, 0, 0⟩], 1)]) (by rfl) ?_ ?_
   · intro act wx hS hr
     simp at hr
     have e0 := hS.s.load
     obtain ⟨hr1, u2, hr2, B2, k2, rfl, hk2, hq2⟩ := hr
     all_goals go_simp
     with_reducible refine Calls.mono (HHS.out _ B2 k2 hS.s.row hq2) ?_
     rintro e w' ⟨v, rfl, hv, hb⟩
     exact Done.rel hb hv
  )
  (refine chain_rel (BrV [([], 1), ([⟨1, 0, 0, 0⟩, ⟨1, 1, 0, 0⟩], 1)]) (BrV.later [([], 1), ([⟨1, 0, 0, 0⟩, ⟨1, 1, 0, 0⟩], 1)]) (by rfl) ?_ ?_
   · intro act wx hS hr
     simp at hr
     have e0 := hS.s.load
     obtain ⟨u3, hr3, hv3⟩ := hr
     all_goals go_simp
     exact Done.rel (Below.refl _ _) hv3
  )
  show ∀ w', _ → _
  intro wz hz
  simp [Act.put]
  case hS => exact HS.out
  intro _ _ _ _ v5 hv5
  have HS2 := Lib.hid (hz.add hv5 (BrV.later [([], 1), ([⟨1, 0, 0, 0⟩, ⟨1, 1, 0, 0⟩], 1)] v5))
  clear hz hv5 HS
  have HS := HS2
  clear HS2
  go_upto_region 6 with (fail)
  refine wp_region_stable (S := (AhS w bb Ab bs_ As cs b2 A2 c2 (fun w => True ∧ BrV [([], 1), ([⟨1, 0, 0, 0⟩, ⟨1, 1, 0, 0⟩], 1)] v5 w))) (hSt := fun _ _ h hb => h.later hb) (plan := [[(4, none)], [(4, none)], [(25, some 1)], [(24, some 0), (26, some 2)], [(27, some 3)]]) (by kernel_rfl) (by kernel_rfl) (by kernel_rfl) ?hS ?_
  rotate_left
  iterate 2 first
    | (refine chain_skip (by rfl) (by rfl) ?_)
    | (apply chain_want (by rfl)
       · intro act wx hS hr
         simp at hr
         have e0 := hS.o.load
         go_simp
         (try go_ints)
         first
           | exact Done.same
      )
  (refine chain_rel (StV (stL anO)) (StV.later (stL anO)) (by rfl) ?_ ?_
   · intro act wx hS hr
     simp at hr
     have e0 := hS.o.load
     all_goals go_simp
     with_reducible refine Calls.mono (HSO.out _) ?_
     rintro e w' ⟨v, rfl, hv, hb⟩
     exact Done.rel hb hv
  )
  (refine chain_rel (BrV [([], 2)]) (BrV.later [([], 2)]) (by rfl) ?_ ?_
   · intro act wx hS hr
     simp at hr
     have e0 := hS.o.load
     obtain ⟨hr1, u2, hr2, B2, k2, rfl, hk2, hq2⟩ := hr
     all_goals go_simp
     with_reducible refine Calls.mono (HHO.out _ B2 k2 hS.o.row hq2) ?_
     rintro e w' ⟨v, rfl, hv, hb⟩
     exact Done.rel hb hv
  )
  (refine chain_rel (BrV [([], 2)]) (BrV.later [([], 2)]) (by rfl) ?_ ?_
   · intro act wx hS hr
     simp at hr
     have e0 := hS.o.load
     obtain ⟨u3, hr3, hv3⟩ := hr
     all_goals go_simp
     exact Done.rel (Below.refl _ _) hv3
  )
  show ∀ w', _ → _
  intro wz hz
  simp [Act.put]
  case hS => exact HS.out
  intro _ _ _ _ v6 hv6
  have HS2 := Lib.hid (hz.add hv6 (BrV.later [([], 2)] v6))
  clear hz hv6 HS
  have HS := HS2
  clear HS2
  go_upto_region 7 with (fail)
  refine wp_region_stable (S := (AhS w bb Ab bs_ As cs b2 A2 c2 (fun w => (True ∧ BrV [([], 1), ([⟨1, 0, 0, 0⟩, ⟨1, 1, 0, 0⟩], 1)] v5 w) ∧ BrV [([], 2)] v6 w))) (hSt := fun _ _ h hb => h.later hb) (plan := [[(3, none)], [(3, none)], [(29, some 1)], [(28, some 0), (30, some 2)], [(31, some 3)]]) (by kernel_rfl) (by kernel_rfl) (by kernel_rfl) ?hS ?_
  rotate_left
  iterate 2 first
    | (refine chain_skip (by rfl) (by rfl) ?_)
    | (apply chain_want (by rfl)
       · intro act wx hS hr
         simp at hr
         have e0 := hS.s.load
         go_simp
         (try go_ints)
         first
           | exact Done.same
      )
  (refine chain_rel (StV (stL anS)) (StV.later (stL anS)) (by rfl) ?_ ?_
   · intro act wx hS hr
     simp at hr
     have e0 := hS.s.load
     all_goals go_simp
     with_reducible refine Calls.mono (HST.out _) ?_
     rintro e w' ⟨v, rfl, hv, hb⟩
     exact Done.rel hb hv
  )
  (refine chain_rel (StsV [[], [⟨1, 0, 0, 0⟩, ⟨1, 1, 0, 0⟩]]) (StsV.later [[], [⟨1, 0, 0, 0⟩, ⟨1, 1, 0, 0⟩]]) (by rfl) ?_ ?_
   · intro act wx hS hr
     simp at hr
     have e0 := hS.s.load
     obtain ⟨hr1, u2, hr2, B2, k2, rfl, hk2, hq2⟩ := hr
     all_goals go_simp
     with_reducible refine Calls.mono (HOS.out _ B2 k2 hk2 hS.s.row hq2) ?_
     rintro e w' ⟨v, rfl, hv, hb⟩
     exact Done.rel hb hv
  )
  (refine chain_rel (StsV [[], [⟨1, 0, 0, 0⟩, ⟨1, 1, 0, 0⟩]]) (StsV.later [[], [⟨1, 0, 0, 0⟩, ⟨1, 1, 0, 0⟩]]) (by rfl) ?_ ?_
   · intro act wx hS hr
     simp at hr
     have e0 := hS.s.load
     obtain ⟨u3, hr3, hv3⟩ := hr
     all_goals go_simp
     exact Done.rel (Below.refl _ _) hv3
  )
  show ∀ w', _ → _
  intro wz hz
  simp [Act.put]
  case hS => exact HS.out
  intro _ _ _ _ v7 hv7
  have HS2 := Lib.hid (hz.add hv7 (StsV.later [[], [⟨1, 0, 0, 0⟩, ⟨1, 1, 0, 0⟩]] v7))
  clear hz hv7 HS HHS HHO HSO HOS
  have HS := HS2
  clear HS2
  obtain ⟨⟨⟨-, HB5⟩, HB6⟩, HB7⟩ := HS.out.p
  obtain ⟨A5, k5, D5, rfl, q5⟩ := HB5
  obtain ⟨A1, c1, A3, c3, rfl⟩ := two_br q5.brs
  obtain ⟨b5, o5, rfl, -, -⟩ := q5.row 0 (Nat.zero_lt_succ _)
  have f5 := (q5.its ⟨[⟨1, 0, 0, 0⟩, ⟨1, 1, 0, 0⟩], A3, c3, 1⟩ (by simp)) 0 (Nat.zero_lt_succ _)
  obtain ⟨b3, o3, hA3, -, -⟩ := f5
  simp only at hA3
  subst hA3
  obtain ⟨A6, k6, D6, rfl, q6⟩ := HB6
  obtain ⟨A4, c4, rfl⟩ := one_br q6.brs
  obtain ⟨b6, o6, rfl, -, -⟩ := q6.row 0 (Nat.zero_lt_succ _)
  obtain ⟨A7, k7, D7, rfl, q7⟩ := HB7
  obtain ⟨A8, c8, m8, A9, c9, m9, rfl⟩ := two_st q7.sts
  obtain ⟨b7, o7, rfl, -, -⟩ := q7.row 0 (Nat.zero_lt_succ _)
  generalize [([], 1), ([(⟨1, 0, 0, 0⟩ : Itm), ⟨1, 1, 0, 0⟩], 1)] = T5 at *
  generalize [([], 2)] = T6 at *
  generalize [[], [(⟨1, 0, 0, 0⟩ : Itm), ⟨1, 1, 0, 0⟩]] = T7 at *
  have HS2 : Hid (AhS w bb Ab bs_ As cs b2 A2 c2 (fun w => BrA T5 (some ⟨b5, o5, none⟩) [⟨[], A1, c1, 1⟩, ⟨[⟨1, 0, 0, 0⟩, ⟨1, 1, 0, 0⟩], some ⟨b3, o3, none⟩, c3, 1⟩] w ∧ BrA T6 (some ⟨b6, o6, none⟩) [⟨[], A4, c4, 2⟩] w ∧ StA T7 (some ⟨b7, o7, none⟩) [⟨[], A8, c8, m8⟩, ⟨[⟨1, 0, 0, 0⟩, ⟨1, 1, 0, 0⟩], A9, c9, m9⟩] w) wz) := ⟨HS.out.bel, HS.out.b, HS.out.s, HS.out.o, ⟨q5, q6, q7⟩, fun _ _ h hb => ⟨h.1.later hb, h.2.1.later hb, h.2.2.later hb⟩⟩
  clear q5 q6 q7 HS
  have HS := HS2
  clear HS2
  go_upto_region 8 with (fail)
  have e0 := HS.out.s.load
  have hbb := (Below.refl wz.heap.size wz).alloc (Nat.le_refl _) (.cells (itV ⟨5, 0, 1, 0⟩) 43)
  have HSA := Lib.hid (HS.out.later hbb)
  have HX := Lib.hid (HOD.out _ _ HSA.out.s.row (ItRow.one (p := ⟨5, 0, 1, 0⟩) (Blk.new wz (itV ⟨5, 0, 1, 0⟩) 43)))
  clear hbb HS HOD
  go_wp2_with fail
  refine HX.out.mono ?_
  rintro e w9 ⟨v, rfl, hv, hb⟩
  obtain ⟨A, kd, D, rfl, hD⟩ := hv
  obtain rfl : D = [] := List.map_eq_nil_iff.1 hD.sts
  have HS := Lib.hid (HSA.out.later hb)
  clear hb hD HX HSA e0
  go_upto_region 9 with (fail)
  go_upto_region 11 with (fail)
  have HQ : Hid (∀ w, (binOp .eql 43 (.agg #[.int .i64 1, .int .i64 0, .int .i64 0, .int .i64 0]) (.agg #[.int .i64 1, .int .i64 0, .int .i64 0, .int .i64 0])).run Try.prog w = .ok (.bool true) w) := fun w => eql_it ⟨1, 0, 0, 0⟩ ⟨1, 0, 0, 0⟩ w
  have HG : Hid (∀ o1 o2 w, (eqGuard .eql 43 o1 o2 (.agg #[.int .i64 1, .int .i64 0, .int .i64 0, .int .i64 0]) (.agg #[.int .i64 1, .int .i64 0, .int .i64 0, .int .i64 0])).run Try.prog w = .ok () w) := fun o1 o2 w => eqGuard_eql_it o1 o2 ⟨1, 0, 0, 0⟩ ⟨1, 0, 0, 0⟩ w
  have HSM : Hid (∀ w', ItRow w' A9 [⟨1, 0, 0, 0⟩, ⟨1, 1, 0, 0⟩] → ItRow w' (some ⟨b3, o3, none⟩) [⟨1, 0, 0, 0⟩, ⟨1, 1, 0, 0⟩] → Calls Try.prog 17 #[.slice A9 2 c9, .slice (some ⟨b3, o3, none⟩) 2 c3] w' (Ans w' (.bool true))) := fun w' h1 h2 => by
    have := rstsame_any [⟨1, 0, 0, 0⟩, ⟨1, 1, 0, 0⟩] [⟨1, 0, 0, 0⟩, ⟨1, 1, 0, 0⟩] A9 (some ⟨b3, o3, none⟩) c9 c3 w' h1 h2 (by decide) (by decide)
    rw [decide_eq_true rfl] at this; exact this
  have HR0 : Hid (∀ w', NRow w' As anS → Calls Try.prog 12 #[.agg #[.slice As 2 cs], .slice none 0 0] w' (Ans w' (.bool true))) := fun w' h => hdReadyS_any anS As cs [] none 0 (by decide) (fun y hy => by cases hy) (by decide) (by decide) w' h (ItRow.nil _ _)
  have HR1 : Hid (∀ w' B k, NRow w' As anS → ItRow w' B (stL anS) → Calls Try.prog 12 #[.agg #[.slice As 2 cs], .slice B (stL anS).length k] w' (Ans w' (.bool false))) := fun w' B k h1 h2 => by
    have := hdReadyS_any anS As cs (stL anS) B k (by decide) (st_form (by decide)) (by decide) (by decide) w' h1 h2
    rw [hw_r1] at this; exact this
  have HR2 : Hid (∀ w' B k, NRow w' Ab anB → ItRow w' B (stL anB) → Calls Try.prog 12 #[.agg #[.slice Ab 1 1], .slice B (stL anB).length k] w' (Ans w' (.bool true))) := fun w' B k h1 h2 => by
    have := hdReadyS_any anB Ab 1 (stL anB) B k (by decide) (st_form (by decide)) (by decide) (by decide) w' h1 h2
    rw [hw_r2] at this; exact this
  refine wp_region_stable (S := (AhS w bb Ab bs_ As cs b2 A2 c2 (fun w => BrA T5 (some ⟨b5, o5, none⟩) [⟨[], A1, c1, 1⟩, ⟨[⟨1, 0, 0, 0⟩, ⟨1, 1, 0, 0⟩], some ⟨b3, o3, none⟩, c3, 1⟩] w ∧ BrA T6 (some ⟨b6, o6, none⟩) [⟨[], A4, c4, 2⟩] w ∧ StA T7 (some ⟨b7, o7, none⟩) [⟨[], A8, c8, m8⟩, ⟨[⟨1, 0, 0, 0⟩, ⟨1, 1, 0, 0⟩], A9, c9, m9⟩] w))) (hSt := fun _ _ h hb => h.later hb) (plan := [[(5, none)], [(49, some 0)], [(50, some 1)], [(51, some 2)], [(52, some 3)], [(53, some 4)], [(54, some 5)], [(5, none)], [(56, some 7)], [(57, some 8)], [(58, some 9)], [(59, some 10)], [(55, some 6), (60, some 11)], [(61, some 12)], [(5, none)], [(63, some 14)], [(64, some 15)], [(65, some 16)], [(66, some 17)], [(67, some 18)], [(62, some 13), (68, some 19)], [(69, some 20)], [(5, none)], [(71, some 22)], [(72, some 23)], [(73, some 24)], [(74, some 25)], [(75, some 26)], [], [(76, some 27), (77, some 28)], [(70, some 21), (78, some 29)], [(79, some 30)], [(6, none)], [(81, some 32)], [(82, some 33)], [(83, some 34)], [(84, some 35)], [(80, some 31), (85, some 36)], [(86, some 37)], [(7, none)], [(88, some 39)], [(89, some 40)], [(90, some 41)], [(91, some 42)], [(87, some 38), (92, some 43)], [(93, some 44)], [(7, none)], [(95, some 46)], [(96, some 47)], [(5, none)], [(98, some 49)], [(99, some 50)], [(100, some 51)], [(97, some 48), (101, some 52)], [(94, some 45), (102, some 53)], [(103, some 54)], [(8, none)], [(105, some 56)], [(106, some 57)], [(104, some 55), (107, some 58)], [(108, some 59)], [(3, none)], [(110, some 61)], [(109, some 60), (111, some 62)], [(112, some 63)], [(3, none)], [(3, none)], [(115, some 66)], [(114, some 65), (116, some 67)], [(117, some 68)], [(113, some 64), (118, some 69)], [(119, some 70)], [(1, none)], [(1, none)], [(122, some 73)], [(121, some 72), (123, some 74)], [(120, some 71), (124, some 75)], [(125, some 76)]]) (by kernel_rfl) (by kernel_rfl) (by kernel_rfl) ?hS ?_
  rotate_left
  iterate 67 first
    | (refine chain_skip (by rfl) (by rfl) ?_)
    | (apply chain_want (by rfl)
       · intro act wx hS hr
         simp at hr
         have e0 := hS.s.load
         have e1 := hS.b.load
         have x0 := br_cell hS.p.1.row 0 _ rfl
         have x1 := br_cell hS.p.1.row 1 _ rfl
         have y0 := br_cell hS.p.2.1.row 0 _ rfl
         have z0 := st_cell hS.p.2.2 0 _ rfl
         have z1 := st_cell hS.p.2.2 1 _ rfl
         have q3 := hS.p.1.its ⟨[⟨1, 0, 0, 0⟩, ⟨1, 1, 0, 0⟩], some ⟨b3, o3, none⟩, c3, 1⟩ (by simp)
         have q9 := hS.p.2.2.its ⟨[⟨1, 0, 0, 0⟩, ⟨1, 1, 0, 0⟩], A9, c9, m9⟩ (by simp)
         have p0 := q3.at (i := 0) (Nat.zero_lt_succ _) rfl
         unfold At4 at p0
         simp at x0 x1 y0 z0 z1 p0
         obtain ⟨x0, x2⟩ := x0
         obtain ⟨x1, x3⟩ := x1
         obtain ⟨y0, y2⟩ := y0
         obtain ⟨p0, p1, p2, p3⟩ := p0
         have hq := HQ.out
         have hg := HG.out
         go_simp
         (try go_ints)
         first
           | ((with_reducible refine (HSM.out _ q9 q3).mono ?_); rintro e w' ⟨rfl, hb⟩; exact Done.mk hb)
           | ((with_reducible refine (HR0.out _ hS.s.row).mono ?_); rintro e w' ⟨rfl, hb⟩; exact Done.mk hb)
           | (obtain ⟨hr1, v, hr2, B, k, rfl, hk, hq8⟩ := hr; simp only [hr1, hr2, Option.getD_some]; (refine (HR1.out _ B k hS.s.row hq8).mono ?_); rintro e w' ⟨rfl, hb⟩; exact Done.mk hb)
           | (obtain ⟨hr1, v, hr2, B, k, rfl, hk, hq8⟩ := hr; simp only [hr1, hr2, Option.getD_some]; (refine (HR2.out _ B k hS.b.row hq8).mono ?_); rintro e w' ⟨rfl, hb⟩; exact Done.mk hb)
           | exact Done.same
      )
  (refine chain_rel (StV (stL anS)) (StV.later (stL anS)) (by rfl) ?_ ?_
   · intro act wx hS hr
     simp at hr
     have e0 := hS.s.load
     have e1 := hS.b.load
     have x0 := br_cell hS.p.1.row 0 _ rfl
     have x1 := br_cell hS.p.1.row 1 _ rfl
     have y0 := br_cell hS.p.2.1.row 0 _ rfl
     have z0 := st_cell hS.p.2.2 0 _ rfl
     have z1 := st_cell hS.p.2.2 1 _ rfl
     have q3 := hS.p.1.its ⟨[⟨1, 0, 0, 0⟩, ⟨1, 1, 0, 0⟩], some ⟨b3, o3, none⟩, c3, 1⟩ (by simp)
     have q9 := hS.p.2.2.its ⟨[⟨1, 0, 0, 0⟩, ⟨1, 1, 0, 0⟩], A9, c9, m9⟩ (by simp)
     have p0 := q3.at (i := 0) (Nat.zero_lt_succ _) rfl
     unfold At4 at p0
     simp at x0 x1 y0 z0 z1 p0
     obtain ⟨x0, x2⟩ := x0
     obtain ⟨x1, x3⟩ := x1
     obtain ⟨y0, y2⟩ := y0
     obtain ⟨p0, p1, p2, p3⟩ := p0
     have hq := HQ.out
     have hg := HG.out
     all_goals go_simp
     with_reducible refine Calls.mono (HST.out _) ?_
     rintro e w' ⟨v, rfl, hv, hb⟩
     exact Done.rel hb hv
  )
  iterate 6 first
    | (refine chain_skip (by rfl) (by rfl) ?_)
    | (apply chain_want (by rfl)
       · intro act wx hS hr
         simp at hr
         have e0 := hS.s.load
         have e1 := hS.b.load
         have x0 := br_cell hS.p.1.row 0 _ rfl
         have x1 := br_cell hS.p.1.row 1 _ rfl
         have y0 := br_cell hS.p.2.1.row 0 _ rfl
         have z0 := st_cell hS.p.2.2 0 _ rfl
         have z1 := st_cell hS.p.2.2 1 _ rfl
         have q3 := hS.p.1.its ⟨[⟨1, 0, 0, 0⟩, ⟨1, 1, 0, 0⟩], some ⟨b3, o3, none⟩, c3, 1⟩ (by simp)
         have q9 := hS.p.2.2.its ⟨[⟨1, 0, 0, 0⟩, ⟨1, 1, 0, 0⟩], A9, c9, m9⟩ (by simp)
         have p0 := q3.at (i := 0) (Nat.zero_lt_succ _) rfl
         unfold At4 at p0
         simp at x0 x1 y0 z0 z1 p0
         obtain ⟨x0, x2⟩ := x0
         obtain ⟨x1, x3⟩ := x1
         obtain ⟨y0, y2⟩ := y0
         obtain ⟨p0, p1, p2, p3⟩ := p0
         have hq := HQ.out
         have hg := HG.out
         go_simp
         (try go_ints)
         first
           | ((with_reducible refine (HSM.out _ q9 q3).mono ?_); rintro e w' ⟨rfl, hb⟩; exact Done.mk hb)
           | ((with_reducible refine (HR0.out _ hS.s.row).mono ?_); rintro e w' ⟨rfl, hb⟩; exact Done.mk hb)
           | (obtain ⟨hr1, v, hr2, B, k, rfl, hk, hq8⟩ := hr; simp only [hr1, hr2, Option.getD_some]; (refine (HR1.out _ B k hS.s.row hq8).mono ?_); rintro e w' ⟨rfl, hb⟩; exact Done.mk hb)
           | (obtain ⟨hr1, v, hr2, B, k, rfl, hk, hq8⟩ := hr; simp only [hr1, hr2, Option.getD_some]; (refine (HR2.out _ B k hS.b.row hq8).mono ?_); rintro e w' ⟨rfl, hb⟩; exact Done.mk hb)
           | exact Done.same
      )
  (refine chain_rel (StV (stL anB)) (StV.later (stL anB)) (by rfl) ?_ ?_
   · intro act wx hS hr
     simp at hr
     have e0 := hS.s.load
     have e1 := hS.b.load
     have x0 := br_cell hS.p.1.row 0 _ rfl
     have x1 := br_cell hS.p.1.row 1 _ rfl
     have y0 := br_cell hS.p.2.1.row 0 _ rfl
     have z0 := st_cell hS.p.2.2 0 _ rfl
     have z1 := st_cell hS.p.2.2 1 _ rfl
     have q3 := hS.p.1.its ⟨[⟨1, 0, 0, 0⟩, ⟨1, 1, 0, 0⟩], some ⟨b3, o3, none⟩, c3, 1⟩ (by simp)
     have q9 := hS.p.2.2.its ⟨[⟨1, 0, 0, 0⟩, ⟨1, 1, 0, 0⟩], A9, c9, m9⟩ (by simp)
     have p0 := q3.at (i := 0) (Nat.zero_lt_succ _) rfl
     unfold At4 at p0
     simp at x0 x1 y0 z0 z1 p0
     obtain ⟨x0, x2⟩ := x0
     obtain ⟨x1, x3⟩ := x1
     obtain ⟨y0, y2⟩ := y0
     obtain ⟨p0, p1, p2, p3⟩ := p0
     have hq := HQ.out
     have hg := HG.out
     all_goals go_simp
     with_reducible refine Calls.mono (HSB.out _) ?_
     rintro e w' ⟨v, rfl, hv, hb⟩
     exact Done.rel hb hv
  )
  iterate 3 first
    | (refine chain_skip (by rfl) (by rfl) ?_)
    | (apply chain_want (by rfl)
       · intro act wx hS hr
         simp at hr
         have e0 := hS.s.load
         have e1 := hS.b.load
         have x0 := br_cell hS.p.1.row 0 _ rfl
         have x1 := br_cell hS.p.1.row 1 _ rfl
         have y0 := br_cell hS.p.2.1.row 0 _ rfl
         have z0 := st_cell hS.p.2.2 0 _ rfl
         have z1 := st_cell hS.p.2.2 1 _ rfl
         have q3 := hS.p.1.its ⟨[⟨1, 0, 0, 0⟩, ⟨1, 1, 0, 0⟩], some ⟨b3, o3, none⟩, c3, 1⟩ (by simp)
         have q9 := hS.p.2.2.its ⟨[⟨1, 0, 0, 0⟩, ⟨1, 1, 0, 0⟩], A9, c9, m9⟩ (by simp)
         have p0 := q3.at (i := 0) (Nat.zero_lt_succ _) rfl
         unfold At4 at p0
         simp at x0 x1 y0 z0 z1 p0
         obtain ⟨x0, x2⟩ := x0
         obtain ⟨x1, x3⟩ := x1
         obtain ⟨y0, y2⟩ := y0
         obtain ⟨p0, p1, p2, p3⟩ := p0
         have hq := HQ.out
         have hg := HG.out
         go_simp
         (try go_ints)
         first
           | ((with_reducible refine (HSM.out _ q9 q3).mono ?_); rintro e w' ⟨rfl, hb⟩; exact Done.mk hb)
           | ((with_reducible refine (HR0.out _ hS.s.row).mono ?_); rintro e w' ⟨rfl, hb⟩; exact Done.mk hb)
           | (obtain ⟨hr1, v, hr2, B, k, rfl, hk, hq8⟩ := hr; simp only [hr1, hr2, Option.getD_some]; (refine (HR1.out _ B k hS.s.row hq8).mono ?_); rintro e w' ⟨rfl, hb⟩; exact Done.mk hb)
           | (obtain ⟨hr1, v, hr2, B, k, rfl, hk, hq8⟩ := hr; simp only [hr1, hr2, Option.getD_some]; (refine (HR2.out _ B k hS.b.row hq8).mono ?_); rintro e w' ⟨rfl, hb⟩; exact Done.mk hb)
           | exact Done.same
      )
  show ∀ w', _ → _
  intro wz hz
  simp [Act.put]
  case hS => exact HS.out
  intro _ _ _ _
  have HZ := Lib.hid hz
  clear hz
  go_wp2
  go_ret
  exact ⟨rfl, HZ.out.bel⟩
end Go.Proofs.Ytgabifebcfgngaa
/- The statement HeadsReady of layer 14, walked. -/
namespace Go.Proofs.Ytgabifebcfgngaa
open Go Go.RowKit
set_option linter.unusedVariables false
set_option linter.unusedSimpArgs false
set_option maxRecDepth 1000000
set_option maxHeartbeats 64000000

structure HryS (w0 : World) (A : Option Addr) (l : List Nd) (c : Nat) (T : Brs) (B : Option Addr) (D : List HdE) (w : World) : Prop where
  f : FstS w0 A l c w
  b : BrA T B D w
theorem HryS.later {w0 w w' : World} {A B : Option Addr} {l : List Nd} {c : Nat} {T : Brs} {D : List HdE} (h : HryS w0 A l c T B D w) (hb : Below w.heap.size w w') : HryS w0 A l c T B D w' := ⟨h.f.later hb, h.b.later hb⟩
def HryL (w0 : World) (A : Option Addr) (l : List Nd) (c : Nat) (T : Brs) (B : Option Addr) (D : List HdE) (n i : Value) (w : World) : Prop :=
  ∃ j : Nat, j ≤ D.length ∧ i = .int .i64 (j : Int) ∧ n = .int .i64 (nthL ((D.take j).map brS) : Int) ∧ HryS w0 A l c T B D w
theorem headsready_walk (l : List Nd) (A : Option Addr) (c : Nat) (hc1 : l.length ≤ c) (hl : l.length ≤ 9223372036854775807) (htx : Txt l) (w : World) (hrow : NRow w A l) :
    Calls Try.prog 3 #[.agg #[.slice A l.length c]] w (Ans w (.bool true)) := by
  have hbb := (Below.refl w.heap.size w).alloc (Nat.le_refl _) (.cells #[.slice A l.length c] 24)
  have HS : Hid (FstS w A l c (w.alloc (.cells #[.slice A l.length c] 24))) := ⟨hbb, hrow.later hbb, Blk.new _ _ _⟩
  have HAW := Lib.hid (fun w => awake14_any w)
  have HTX := Lib.hid htx
  clear hbb hrow htx
  go_enter Try.func3, Try.ntmps3
  go_upto_region 1 with (fail)
  generalize w.alloc (.cells #[.slice A l.length c] 24) = w1 at HS ⊢
  have e0 := HS.out.box.cell 0
  simp at e0
  go_wp2_with fail
  refine ((HAW.out _)).mono ?_; rintro e w2 ⟨rfl, hb⟩
  have HS2 := Lib.hid (HS.out.later hb)
  clear hb e0 HS
  have HS := HS2
  clear HS2
  have e0 := HS.out.box.cell 0
  simp at e0
  have HF := Lib.hid (few_any l A c hl HTX.out _ HS.out.row)
  cases hf : fewB l with
  | false =>
    rw [hf] at HF
    clear hf
    go_wp2_with fail
    refine ((HF.out)).mono ?_; rintro e w2 ⟨rfl, hb⟩
    have HS2 := Lib.hid (HS.out.later hb)
    clear hb e0 HS
    have HS := HS2
    clear HS2
    have e0 := HS.out.box.cell 0
    simp at e0
    go_wp2_with fail
    refine ((HAW.out _)).mono ?_; rintro e w2 ⟨rfl, hb⟩
    have HS2 := Lib.hid (HS.out.later hb)
    clear hb e0 HS
    have HS := HS2
    clear HS2
    have e0 := HS.out.box.cell 0
    simp at e0
    go_wp2
    go_ret
    exact ⟨rfl, HS.out.bel⟩
  | true =>
    rw [hf] at HF
    have L1 := Lib.hid (few_txt hf).1
    clear hf
    go_wp2_with fail
    refine ((HF.out)).mono ?_; rintro e w2 ⟨rfl, hb⟩
    have HS2 := Lib.hid (HS.out.later hb)
    clear hb e0 HS
    have HS := HS2
    clear HS2
    have e0 := HS.out.box.cell 0
    simp at e0
    clear HF
    have HF := Lib.hid (rright_any l A c hc1 (by have := L1.out; omega) HTX.out _ HS.out.row)
    cases hf : rgB l with
    | false =>
      rw [hf] at HF
      clear hf
      go_wp2_with fail
      refine ((HF.out)).mono ?_; rintro e w2 ⟨rfl, hb⟩
      have HS2 := Lib.hid (HS.out.later hb)
      clear hb e0 HS
      have HS := HS2
      clear HS2
      have e0 := HS.out.box.cell 0
      simp at e0
      go_wp2_with fail
      refine ((HAW.out _)).mono ?_; rintro e w2 ⟨rfl, hb⟩
      have HS2 := Lib.hid (HS.out.later hb)
      clear hb e0 HS
      have HS := HS2
      clear HS2
      have e0 := HS.out.box.cell 0
      simp at e0
      go_wp2
      go_ret
      exact ⟨rfl, HS.out.bel⟩
    | true =>
      rw [hf] at HF
      have HR := Lib.hid ((rgB_iff l).1 hf)
      clear hf
      by_cases ga : l.length ≤ 24
      · have za : ¬ (l.length : Int) > 24 := by omega
        have HLN := Lib.hid ga
        have HPOS : Hid (0 < l.length) := HR.out.1.1
        go_wp2_with fail
        refine ((HF.out)).mono ?_; rintro e w2 ⟨rfl, hb⟩
        have HS2 := Lib.hid (HS.out.later hb)
        clear hb e0 HS
        have HS := HS2
        clear HS2
        have e0 := HS.out.box.cell 0
        simp at e0
        clear HF
        go_upto_region 3 with (fail)
        have HST := Lib.hid (fun w' => start14_any l A c (by have := HLN.out; omega) w')
        have HHD : Hid (∀ w' B k, NRow w' A l → ItRow w' B (stL l) → Calls Try.prog 10 #[.agg #[.slice A l.length c], .slice B (stL l).length k] w' (fun e w'' => ∃ v, e = .returned v ∧ BrV (hdsL l (stL l)) v w'' ∧ Below w'.heap.size w' w'')) := fun w' B k h1 h2 => (hdHeads_any l A c (stL l) B k HR.out (by have := HLN.out; omega) HTX.out (st_form HPOS.out) (by unfold stL; simp) w' h1 h2).mono fun e w'' h => hds_known h
        clear za ga
        refine wp_region_stable (S := (FstS w A l c)) (hSt := fun _ _ h hb => h.later hb) (plan := [[(1, none)], [(1, none)], [(26, some 1)], [(25, some 0), (27, some 2)], [(28, some 3)]]) (by kernel_rfl) (by kernel_rfl) (by kernel_rfl) ?hS ?_
        rotate_left
        iterate 2 first
          | (refine chain_skip (by rfl) (by rfl) ?_)
          | (apply chain_want (by rfl)
             · intro act wx hS hr
               simp at hr
               have e0 := hS.box.cell 0
               simp at e0
               go_simp
               (try go_ints)
               first
                 | exact Done.same
            )
        (refine chain_rel (StV (stL l)) (StV.later (stL l)) (by rfl) ?_ ?_
         · intro act wx hS hr
           simp at hr
           have e0 := hS.box.cell 0
           simp at e0
           all_goals go_simp
           with_reducible refine Calls.mono (HST.out _) ?_
           rintro e w' ⟨v, rfl, hv, hb⟩
           exact Done.rel hb hv
        )
        (refine chain_rel (BrV (hdsL l (stL l))) (BrV.later (hdsL l (stL l))) (by rfl) ?_ ?_
         · intro act wx hS hr
           simp at hr
           have e0 := hS.box.cell 0
           simp at e0
           obtain ⟨hr1, u2, hr2, B2, k2, rfl, hk2, hq2⟩ := hr
           all_goals go_simp
           with_reducible refine Calls.mono (HHD.out _ B2 k2 hS.row hq2) ?_
           rintro e w' ⟨v, rfl, hv, hb⟩
           exact Done.rel hb hv
        )
        (refine chain_rel (BrV (hdsL l (stL l))) (BrV.later (hdsL l (stL l))) (by rfl) ?_ ?_
         · intro act wx hS hr
           simp at hr
           have e0 := hS.box.cell 0
           simp at e0
           obtain ⟨u3, hr3, hv3⟩ := hr
           all_goals go_simp
           exact Done.rel (Below.refl _ _) hv3
        )
        show ∀ w', _ → _
        intro wz hz
        simp [Act.put]
        case hS => exact HS.out
        intro _ _ _ _ v3 hv3
        obtain ⟨B, kb, D, rfl, hD⟩ := hv3
        have HSR := Lib.hid (hds_srt l (stL l))
        have HOK := Lib.hid (fun a ha => hds_ok HR.out.1 (st_form HPOS.out) (a := a) ha)
        have HNO := Lib.hid (nth_is (hds_srt l (stL l)))
        rw [start_nothing HR.out] at HNO
        have HDL : Hid (D.length ≤ 1000) := by
          have h1 := hds_len HR.out (st_form HPOS.out)
          rw [← hD.brs, List.length_map] at h1
          have h2 : (stL l).length * l.length = l.length := by unfold stL; simp
          have := HLN.out
          unfold Hid; omega
        generalize hdsL l (stL l) = T at *
        have HS0 : Hid (HryL w A l c T B D (.int .i64 0) (.int .i64 0) wz) := ⟨0, Nat.zero_le _, rfl, rfl, ⟨hz, hD⟩⟩
        have HBR := Lib.hid hD.brs
        have HCP := Lib.hid hD.cap
        clear hD hz HS e0 HST HHD
        have hdz : (D.length : Int) ≤ 1000 := by have := HDL.out; omega
        go_wp2
        go_loopw [4, 5] (HryL w A l c T B D) (fun _ i _ => D.length - (intOf i).toNat)
        case atStart => exact HS0.out
        case round =>
          obtain ⟨j, hj, rfl, rfl, hh⟩ := hrel
          have HH := Lib.hid hh
          clear hh
          by_cases hlt : j < D.length
          · have hz : (j : Int) < (D.length : Int) := by omega
            have HLT := Lib.hid hlt
            have HNT := Lib.hid (nth_step hlt)
            have HDG := Lib.hid (hd_here hlt)
            have HDM := Lib.hid (hd_mem hlt)
            obtain ⟨hc, hl1⟩ := HCP.out _ (hd_mem hlt)
            have hio := HOK.out (brS (D.getD j hd0)) (by rw [← HBR.out]; exact List.mem_map_of_mem (hd_mem hlt))
            obtain ⟨hy1, hy2, hm1, hm2⟩ := hio
            simp only [brS] at hy1 hy2 hm1 hm2
            have HRY : Hid (∀ w', NRow w' A l → ItRow w' (D.getD j hd0).A (D.getD j hd0).s → Calls Try.prog 12 #[.agg #[.slice A l.length c], .slice (D.getD j hd0).A (D.getD j hd0).s.length (D.getD j hd0).cap] w' (Ans w' (.bool true))) := fun w' h1 h2 => by
              have := hdReadyS_any l A c (D.getD j hd0).s (D.getD j hd0).A (D.getD j hd0).cap HPOS.out hy2 (by have := HLN.out; omega) (by omega) w' h1 h2
              rw [hy1] at this; exact this
            have HFM : Hid (∀ w', NRow w' A l → ItRow w' (D.getD j hd0).A (D.getD j hd0).s → Calls Try.prog 13 #[.agg #[.slice A l.length c], .slice (D.getD j hd0).A (D.getD j hd0).s.length (D.getD j hd0).cap] w' (Ans w' (.bool true))) := fun w' h1 h2 => by
              have := riform_any l A c (D.getD j hd0).s (D.getD j hd0).A (D.getD j hd0).cap (by have := HLN.out; omega) (by omega) HTX.out w' h1 h2
              rw [form_stF hy2] at this; exact this
            obtain ⟨bb, ob, rfl, -, -⟩ := HH.out.b.row j hlt
            have hza : ¬ ((D.getD j hd0).many : Int) < 1 := by omega
            have hzb : ¬ ((D.getD j hd0).many : Int) > 2 := by omega
            have hl1z : ((D.getD j hd0).s.length : Int) ≤ 1000 := by omega
            by_cases hj0 : j = 0
            · subst hj0
              clear hy1 hy2 hm1 hm2 hl1 hj hlt hc
              go_upto_region 8 with (fail)
              generalize D.getD 0 hd0 = d at *
              have x0 := br_cell HH.out.b.row 0 d HDG.out
              simp at x0
              refine wp_region_stable (S := (HryS w A l c T (some ⟨bb, ob, none⟩) D)) (hSt := fun _ _ h hb => h.later hb) (plan := [[(1, none)], [(3, none)], [(5, none)], [(36, some 1), (37, some 2)], [(38, some 3)], [(39, some 4)], [(35, some 0), (40, some 5)], [(41, some 6)], [(42, some 7)], [(1, none)], [(3, none)], [(5, none)], [(45, some 10), (46, some 11)], [(47, some 12)], [(48, some 13)], [(44, some 9), (49, some 14)], [(50, some 15)], [(43, some 8), (51, some 16)], [(52, some 17)], [(3, none)], [(5, none)], [(54, some 19), (55, some 20)], [(56, some 21)], [(57, some 22)], [(58, some 23)], [(53, some 18), (59, some 24)], [(60, some 25)], [(3, none)], [(5, none)], [(62, some 27), (63, some 28)], [(64, some 29)], [(65, some 30)], [(66, some 31)], [(61, some 26), (67, some 32)], [(68, some 33)], [(5, none)], [(70, some 35)], [(71, some 36)], [(3, none)], [(5, none)], [(74, some 39)], [(73, some 38), (75, some 40)], [(76, some 41)], [(77, some 42)], [(3, none)], [(5, none)], [(79, some 44), (80, some 45)], [(81, some 46)], [(82, some 47)], [(78, some 43), (83, some 48)], [(84, some 49)], [(72, some 37), (85, some 50)], [(69, some 34), (86, some 51)]]) (by kernel_rfl) (by kernel_rfl) (by kernel_rfl) ?hS ?_
              rotate_left
              iterate 53 first
                | (refine chain_skip (by rfl) (by rfl) ?_)
                | (apply chain_want (by rfl)
                   · intro act wx hS hr
                     simp at hr
                     have e0 := hS.f.box.cell 0
                     have x0 := br_cell hS.b.row 0 d HDG.out
                     simp at e0 x0
                     obtain ⟨x0, x1⟩ := x0
                     go_simp
                     (try go_ints)
                     first
                       | ((with_reducible refine (HRY.out _ hS.f.row (hS.b.its _ HDM.out)).mono ?_); rintro e w' ⟨rfl, hb⟩; exact Done.mk hb)
                       | ((with_reducible refine (HFM.out _ hS.f.row (hS.b.its _ HDM.out)).mono ?_); rintro e w' ⟨rfl, hb⟩; exact Done.mk hb)
                       | exact Done.same
                  )
              show ∀ w', _ → _
              intro wz hz
              simp [Act.put]
              case hS => exact HH.out
              have HS8 := Lib.hid hz
              clear hz
              go_upto_region 10 with (fail)
              have x0 := br_cell HS8.out.b.row 0 d HDG.out
              try simp only [Nat.zero_mul, Nat.add_zero] at x0
              obtain ⟨x0, x1⟩ := x0
              by_cases hn0 : d.s.length = 0
              · have HNT2 : Hid (nthL ((D.take (0 + 1)).map brS) = d.many) := by have := HNT.out; rw [if_pos hn0] at this; exact this
                have hn0z : ((d.s.length : Nat) : Int) = 0 := by omega
                have hn0b : (((d.s.length : Nat) : Int) == 0) = true := by rw [hn0z]; rfl
                clear HNT hn0
                go_wp2
                go_roundw
                case rel => exact ⟨0 + 1, HLT.out, by go_num, by (rw [HNT2.out]; first | done | rfl | rw [List.map_take]), HS8.out⟩
                case measure => have := HLT.out; simp [intOf] <;> omega
              · have HNT2 : Hid (nthL ((D.take (0 + 1)).map brS) = nthL ((D.take 0).map brS)) := by have := HNT.out; rw [if_neg hn0] at this; exact this
                have hn0z : ¬ ((d.s.length : Nat) : Int) = 0 := by omega
                have hn0b : (((d.s.length : Nat) : Int) == 0) = false := beq_eq_false_iff_ne.2 hn0z
                clear HNT hn0
                go_wp2
                go_roundw
                case rel => exact ⟨0 + 1, HLT.out, by go_num, by (rw [HNT2.out]; first | done | rfl | rw [List.map_take]), HS8.out⟩
                case measure => have := HLT.out; simp [intOf] <;> omega
            · obtain ⟨i, hi⟩ : ∃ i, j = i + 1 := ⟨j - 1, by omega⟩
              have hlti : i < D.length := by omega
              have hst := hd_ahead HBR.out HSR.out (i := i) (by omega)
              rw [← hi] at hst
              have HDG2 := Lib.hid (hd_here hlti)
              have HDM2 := Lib.hid (hd_mem hlti)
              obtain ⟨-, hl2⟩ := HCP.out _ (hd_mem hlti)
              have HCM : Hid (∀ w', ItRow w' (D.getD i hd0).A (D.getD i hd0).s → ItRow w' (D.getD j hd0).A (D.getD j hd0).s → Calls Try.prog 14 #[.slice (D.getD i hd0).A (D.getD i hd0).s.length (D.getD i hd0).cap, .slice (D.getD j hd0).A (D.getD j hd0).s.length (D.getD j hd0).cap] w' (Ans w' (.int .i64 (-1)))) := fun w' h1 h2 => by
                have := rstcmp_any _ _ _ _ (D.getD i hd0).cap (D.getD j hd0).cap w' h1 h2 (by omega) (by omega)
                rw [hst] at this; exact this
              have hji : (j : Int) - 1 = (i : Int) := by omega
              have hjp : (j : Int) > 0 := by omega
              have hjn : 0 < j := by omega
              have hjd : decide (0 < j) = true := decide_eq_true hjn
              have hiz : (i : Int) < (D.length : Int) := by omega
              have HJI := Lib.hid hi
              clear hy1 hy2 hm1 hm2 hl1 hj hlt hc hst hi hlti hl2 hj0
              go_upto_region 8 with (fail)
              generalize D.getD j hd0 = d at *
              generalize D.getD i hd0 = p at *
              refine wp_region_stable (S := (HryS w A l c T (some ⟨bb, ob, none⟩) D)) (hSt := fun _ _ h hb => h.later hb) (plan := [[(1, none)], [(3, none)], [(5, none)], [(36, some 1), (37, some 2)], [(38, some 3)], [(39, some 4)], [(35, some 0), (40, some 5)], [(41, some 6)], [(42, some 7)], [(1, none)], [(3, none)], [(5, none)], [(45, some 10), (46, some 11)], [(47, some 12)], [(48, some 13)], [(44, some 9), (49, some 14)], [(50, some 15)], [(43, some 8), (51, some 16)], [(52, some 17)], [(3, none)], [(5, none)], [(54, some 19), (55, some 20)], [(56, some 21)], [(57, some 22)], [(58, some 23)], [(53, some 18), (59, some 24)], [(60, some 25)], [(3, none)], [(5, none)], [(62, some 27), (63, some 28)], [(64, some 29)], [(65, some 30)], [(66, some 31)], [(61, some 26), (67, some 32)], [(68, some 33)], [(5, none)], [(70, some 35)], [(71, some 36)], [(3, none)], [(5, none)], [(74, some 39)], [(73, some 38), (75, some 40)], [(76, some 41)], [(77, some 42)], [(3, none)], [(5, none)], [(79, some 44), (80, some 45)], [(81, some 46)], [(82, some 47)], [(78, some 43), (83, some 48)], [(84, some 49)], [(72, some 37), (85, some 50)], [(69, some 34), (86, some 51)]]) (by kernel_rfl) (by kernel_rfl) (by kernel_rfl) ?hS ?_
              rotate_left
              iterate 53 first
                | (refine chain_skip (by rfl) (by rfl) ?_)
                | (apply chain_want (by rfl)
                   · intro act wx hS hr
                     simp at hr
                     have e0 := hS.f.box.cell 0
                     simp at e0
                     obtain ⟨x0, x1⟩ := br_cell hS.b.row j d HDG.out
                     obtain ⟨y0, y1⟩ := br_cell hS.b.row i p HDG2.out
                     go_simp
                     (try go_ints)
                     first
                       | ((with_reducible refine (HRY.out _ hS.f.row (hS.b.its _ HDM.out)).mono ?_); rintro e w' ⟨rfl, hb⟩; exact Done.mk hb)
                       | ((with_reducible refine (HFM.out _ hS.f.row (hS.b.its _ HDM.out)).mono ?_); rintro e w' ⟨rfl, hb⟩; exact Done.mk hb)
                       | ((with_reducible refine (HCM.out _ (hS.b.its _ HDM2.out) (hS.b.its _ HDM.out)).mono ?_); rintro e w' ⟨rfl, hb⟩; exact Done.mk hb)
                       | exact Done.same
                  )
              show ∀ w', _ → _
              intro wz hz
              simp [Act.put]
              case hS => exact HH.out
              have HS8 := Lib.hid hz
              clear hz
              go_upto_region 10 with (fail)
              have x0 := br_cell HS8.out.b.row j d HDG.out
              try simp only [Nat.zero_mul, Nat.add_zero] at x0
              obtain ⟨x0, x1⟩ := x0
              by_cases hn0 : d.s.length = 0
              · have HNT2 : Hid (nthL ((D.take (j + 1)).map brS) = d.many) := by have := HNT.out; rw [if_pos hn0] at this; exact this
                have hn0z : ((d.s.length : Nat) : Int) = 0 := by omega
                have hn0b : (((d.s.length : Nat) : Int) == 0) = true := by rw [hn0z]; rfl
                clear HNT hn0
                go_wp2
                go_roundw
                case rel => exact ⟨j + 1, HLT.out, by go_num, by (rw [HNT2.out]; first | done | rfl | rw [List.map_take]), HS8.out⟩
                case measure => have := HLT.out; simp [intOf] <;> omega
              · have HNT2 : Hid (nthL ((D.take (j + 1)).map brS) = nthL ((D.take j).map brS)) := by have := HNT.out; rw [if_neg hn0] at this; exact this
                have hn0z : ¬ ((d.s.length : Nat) : Int) = 0 := by omega
                have hn0b : (((d.s.length : Nat) : Int) == 0) = false := beq_eq_false_iff_ne.2 hn0z
                clear HNT hn0
                go_wp2
                go_roundw
                case rel => exact ⟨j + 1, HLT.out, by go_num, by (rw [HNT2.out]; first | done | rfl | rw [List.map_take]), HS8.out⟩
                case measure => have := HLT.out; simp [intOf] <;> omega
          · obtain rfl : j = D.length := by omega
            have hz : ¬ ((D.length : Nat) : Int) < (D.length : Int) := by omega
            rw [List.take_length, HBR.out, HNO.out]
            have HW : Hid (∀ w', NRow w' A l → Calls Try.prog 15 #[.agg #[.slice A l.length c], .int .i64 ((l.length : Int) - 1)] w' (Ans w' (.int .i64 ((wyN l (l.length - 1) : Nat) : Int)))) := fun w' h => by
              have := rways_any l A c hc1 (by have := HLN.out; omega) (l.length - 1) (by have := HPOS.out; omega) (HR.out.1.okTo (by have := HPOS.out; omega)) w' h
              rw [show (((l.length - 1 : Nat)) : Int) = (l.length : Int) - 1 by have := HPOS.out; omega] at this
              exact this
            have hlz : (l.length : Int) ≤ 24 := by have := HLN.out; omega
            generalize wyN l (l.length - 1) = N at *
            have e0 := HH.out.f.box.cell 0
            simp at e0
            go_wp2_with fail
            refine (HW.out _ HH.out.f.row).mono ?_; rintro e w2 ⟨rfl, hb⟩
            have HB := Lib.hid (HH.out.f.bel.trans (hb.mono HH.out.f.bel.size))
            clear hb
            go_wp2
            go_ret
            exact ⟨by simp, HB.out⟩
      · have za : (l.length : Int) > 24 := by omega
        clear ga
        go_wp2_with fail
        refine ((HF.out)).mono ?_; rintro e w2 ⟨rfl, hb⟩
        have HS2 := Lib.hid (HS.out.later hb)
        clear hb e0 HS
        have HS := HS2
        clear HS2
        have e0 := HS.out.box.cell 0
        simp at e0
        go_wp2_with fail
        refine ((HAW.out _)).mono ?_; rintro e w2 ⟨rfl, hb⟩
        have HS2 := Lib.hid (HS.out.later hb)
        clear hb e0 HS
        have HS := HS2
        clear HS2
        have e0 := HS.out.box.cell 0
        simp at e0
        go_wp2
        go_ret
        exact ⟨rfl, HS.out.bel⟩
end Go.Proofs.Ytgabifebcfgngaa
