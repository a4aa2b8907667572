/- The twin of layer 14: what fits, what is ready. -/
import Derived.Test.YtgabifebcfgngaaM39
import Derived.Test.YtgabifebcfgngaaM26
namespace Go.Proofs.Ytgabifebcfgngaa
open Go Go.RowKit
set_option linter.unusedVariables false
set_option linter.unusedSimpArgs false
set_option maxRecDepth 1000000
set_option maxHeartbeats 64000000

def fitB (l : List Nd) (s : List Itm) : Bool := decide (l.length ≤ 24) && decide (s.length ≤ 8) && stF l s
theorem fit_iff {l : List Nd} {s : List Itm} : fitB l s = true ↔ (l.length ≤ 24 ∧ s.length ≤ 8) ∧ stF l s = true := by
  unfold fitB; simp
/-- The description's box, the state. -/
structure HtwS (w0 : World) (A : Option Addr) (l : List Nd) (c : Nat) (B : Option Addr) (s : List Itm) (w : World) : Prop where
  f : FstS w0 A l c w
  rs : ItRow w B s
theorem HtwS.later {w0 w w' : World} {A B : Option Addr} {l : List Nd} {c : Nat} {s : List Itm} (h : HtwS w0 A l c B s w) (hb : Below w.heap.size w w') : HtwS w0 A l c B s w' := ⟨h.f.later hb, h.rs.later hb⟩
theorem HtwS.new {w : World} {A B : Option Addr} {l : List Nd} (c : Nat) {s : List Itm} (hrow : NRow w A l) (hs : ItRow w B s) : HtwS w A l c B s (w.alloc (.cells #[.slice A l.length c] 24)) := by
  have hb := (Below.refl w.heap.size w).alloc (Nat.le_refl _) (.cells #[.slice A l.length c] 24)
  exact ⟨⟨hb, hrow.later hb, Blk.new _ _ _⟩, hs.later hb⟩
theorem rfits14_any (l : List Nd) (A : Option Addr) (c : Nat) (s : List Itm) (B : Option Addr) (c2 : Nat) (hlen : l.length ≤ 1073741824) (hsl : s.length ≤ 9223372036854775807) (htx : Txt l) (w : World) (hrow : NRow w A l) (hs : ItRow w B s) :
    Calls Try.prog 16 #[.agg #[.slice A l.length c], .slice B s.length c2] w (Ans w (.bool (fitB l s))) := by
  have HS := Lib.hid (HtwS.new c hrow hs)
  have HTX := Lib.hid htx
  obtain ⟨v, hv⟩ : ∃ v, fitB l s = v := ⟨_, rfl⟩
  rw [hv]
  unfold fitB at hv
  have HV := Lib.hid hv
  clear hrow hs htx hv
  go_enter Try.func16, Try.ntmps16
  go_upto_region 1 with (fail)
  generalize w.alloc (.cells #[.slice A l.length c] 24) = w1 at HS ⊢
  have e0 := HS.out.f.box.cell 0
  simp at e0
  by_cases ga : l.length ≤ 24
  · have za : (l.length : Int) ≤ 24 := by omega
    by_cases gb : s.length ≤ 8
    · have zb : (s.length : Int) ≤ 8 := by omega
      have HF := Lib.hid (riform_any l A c s B c2 hlen (by omega) HTX.out w1 HS.out.f.row HS.out.rs)
      have hv := HV.out
      rw [decide_eq_true ga, decide_eq_true gb, Bool.true_and, Bool.true_and] at hv
      rw [hv] at HF
      clear hv
      go_wp2_with fail
      refine HF.out.mono ?_; rintro e w2 ⟨rfl, hb⟩
      have HB := Lib.hid (HS.out.f.bel.trans (hb.mono HS.out.f.bel.size))
      clear hb
      go_wp2
      go_ret
      exact ⟨rfl, HB.out⟩
    · have zb : ¬ (s.length : Int) ≤ 8 := by omega
      have hv := HV.out
      rw [decide_eq_true ga, decide_eq_false gb] at hv
      simp only [Bool.and_false, Bool.false_and] at hv
      subst hv
      clear ga gb
      go_wp2
      go_ret
      exact ⟨rfl, HS.out.f.bel⟩
  · have za : ¬ (l.length : Int) ≤ 24 := by omega
    have hv := HV.out
    rw [decide_eq_false ga] at hv
    simp only [Bool.false_and] at hv
    subst hv
    clear ga
    go_wp2
    go_ret
    exact ⟨rfl, HS.out.f.bel⟩
end Go.Proofs.Ytgabifebcfgngaa
/- The anchor of layer 7. -/
namespace Go.Proofs.Ytgabifebcfgngaa
open Go Go.RowKit
set_option linter.unusedVariables false
set_option linter.unusedSimpArgs false

theorem sm_one {n : Nd} (h : okN [n] 0 n) (hk : leafK n.kind) (ht : n.text.length ≤ 281474976710656) : Sm [n] := by
  refine ⟨⟨by simp, fun i hi => ?_, ?_⟩, by simp, fun m hm => ?_⟩
  · obtain rfl : i = 0 := by simpa using hi
    exact h
  · show firstP [n] 0 = 0
    have := firstP_le [n] 0; omega
  · rw [List.mem_singleton.1 hm]; exact ht
/-- A description in a box. -/
structure Dx (b : Nat) (A : Option Addr) (l : List Nd) (n c : Nat) (w : World) : Prop where
  cap : l.length ≤ c
  len : l.length = n
  box : Blk w b #[.slice A n c] 24
  row : NRow w A l
theorem Dx.later {b : Nat} {A : Option Addr} {l : List Nd} {n c : Nat} {w w' : World} (h : Dx b A l n c w) (hb : Below w.heap.size w w') : Dx b A l n c w' := ⟨h.cap, h.len, h.box.later hb, h.row.later hb⟩
theorem Dx.isD {b : Nat} {A : Option Addr} {l : List Nd} {n c : Nat} {w : World} (h : Dx b A l n c w) : IsD l (.agg #[.slice A n c]) w := ⟨A, c, h.cap, by rw [h.len], h.row⟩
theorem Dx.load {b : Nat} {A : Option Addr} {l : List Nd} {n c : Nat} {w : World} (h : Dx b A l n c w) : w.cell? ⟨b, 0, none⟩ = some (.slice A n c) := by
  have := h.box.cell 0; simpa using this
theorem nrow_one {n : Nd} {b : Nat} {w : World} (h : Blk w b (ndC n) 48) : NRow w (some ⟨b, 0, none⟩) [n] := fun i hi => by
  obtain rfl : i = 0 := by simpa using hi
  exact ⟨b, 0, rfl, h.lt, fun j _ => by rw [h.cell]; simp⟩
theorem dx_one (n : Nd) (w : World) {cs : Array Value} (hc : ndC n = cs) : Dx (w.heap.size + 1) (some ⟨w.heap.size, 0, none⟩) [n] 1 1 ((w.alloc (.cells cs 48)).alloc (.cells #[.slice (some ⟨w.heap.size, 0, none⟩) 1 1] 24)) ∧ Below w.heap.size w ((w.alloc (.cells cs 48)).alloc (.cells #[.slice (some ⟨w.heap.size, 0, none⟩) 1 1] 24)) := by
  subst hc
  exact ⟨⟨by simp, rfl, Blk.new' (by simp) _ _, nrow_one ((Blk.new w _ _).alloc _)⟩, ((Below.refl w.heap.size w).alloc (Nat.le_refl _) _).alloc (by simp) _⟩
theorem dx_of {l : List Nd} {w : World} {A : Option Addr} {n c : Nat} (hr : NRow w A l) (hl : l.length = n) (hc : n ≤ c) : Dx w.heap.size A l n c (w.alloc (.cells #[.slice A n c] 24)) :=
  ⟨by omega, hl, Blk.new w _ _, hr.later ((Below.refl w.heap.size w).alloc (Nat.le_refl _) _)⟩
end Go.Proofs.Ytgabifebcfgngaa
/- The anchor of layer 8. -/
namespace Go.Proofs.Ytgabifebcfgngaa
open Go Go.RowKit
set_option linter.unusedVariables false
set_option linter.unusedSimpArgs false
set_option maxRecDepth 100000

def anEn : Nd := ⟨1, 0, 0, 0, 0, 0#256, []⟩
def anBn : Nd := ⟨2, 0, 0, 0, 0, 0#256, []⟩
def anE : List Nd := [anEn]
def anB : List Nd := [anBn]
def anO : List Nd := pairL 5 anE anE
def anS : List Nd := wrapL 6 0 0 anB
theorem anE_sm : Sm anE := sm_one ⟨by decide, .inl rfl⟩ (.inl rfl) (by decide)
theorem anB_sm : Sm anB := sm_one ⟨by decide, .inr (.inl rfl)⟩ (.inr (.inl rfl)) (by decide)
theorem anO_sm : Sm anO := anE_sm.pair anE_sm (by decide) (.inr rfl)
theorem anS_sm : Sm anS := anB_sm.wrap (by decide) (.inl rfl)
theorem anS_right : rgB anS = true := by
  unfold rgB
  rw [(formB_iff anS).2 anS_sm.form, show (fstW anS).2 = false by decide]; rfl
end Go.Proofs.Ytgabifebcfgngaa
/- The anchor of layer 14. -/
namespace Go.Proofs.Ytgabifebcfgngaa
open Go Go.RowKit
set_option linter.unusedVariables false
set_option linter.unusedSimpArgs false
set_option maxRecDepth 100000

theorem hdStar_rgt : Rgt anS := (rgB_iff anS).1 anS_right
theorem hdOr_rgt : Rgt anO := by
  refine (rgB_iff anO).1 ?_
  unfold rgB
  rw [(formB_iff anO).2 anO_sm.form, show (fstW anO).2 = false by decide]; rfl
theorem hw_txt1 : Txt anS := fun n hn => by
  have : n = ⟨2, 0, 0, 0, 0, 0#256, []⟩ ∨ n = ⟨6, 0, 0, 0, 0, 0#256, []⟩ := by
    unfold anS wrapL anB anBn at hn; simpa using hn
  rcases this with rfl | rfl <;> simp
theorem hw_txt2 : Txt anO := fun n hn => by
  have : n.text = [] := by
    unfold anO pairL anE anEn at hn; simp at hn; rcases hn with rfl | rfl | rfl <;> rfl
  rw [this]; simp
theorem hw_star : hdsL anS (stL anS) = [([], 1), ([⟨1, 0, 0, 0⟩, ⟨1, 1, 0, 0⟩], 1)] := by decide +kernel
theorem hw_or : hdsL anO (stL anO) = [([], 2)] := by decide +kernel
theorem hw_opn : opnS anS ⟨1, (anS.length : Int) - 1, 0, 0⟩ [] = [[], [⟨1, 0, 0, 0⟩, ⟨1, 1, 0, 0⟩]] := by decide +kernel
theorem hw_dead : opnS anS ⟨5, 0, 1, 0⟩ [] = [] := by decide +kernel
theorem hw_r1 : rdyS anS (stL anS) = false := by decide +kernel
theorem hw_r2 : rdyS anB (stL anB) = true := by decide +kernel
theorem hw_r3 : rdyS anS [⟨5, 0, 1, 0⟩] = false := by decide +kernel
theorem hw_form : ∀ y ∈ [(⟨5, 0, 1, 0⟩ : Itm)], HdF anS y := stF_form (by decide +kernel)

structure AhS (w0 : World) (bb : Nat) (Ab : Option Addr) (bs_ : Nat) (As : Option Addr) (cs : Nat) (b2 : Nat) (A2 : Option Addr) (c2 : Nat) (P : World → Prop) (w : World) : Prop where
  bel : Below w0.heap.size w0 w
  b : Dx bb Ab anB 1 1 w
  s : Dx bs_ As anS 2 cs w
  o : Dx b2 A2 anO 3 c2 w
  p : P w
  pl : ∀ w w', P w → Below w.heap.size w w' → P w'
theorem AhS.later {w0 w w' : World} {bb : Nat} {Ab : Option Addr} {bs_ : Nat} {As : Option Addr} {cs : Nat} {b2 : Nat} {A2 : Option Addr} {c2 : Nat} {P : World → Prop} (h : AhS w0 bb Ab bs_ As cs b2 A2 c2 P w) (hb : Below w.heap.size w w') : AhS w0 bb Ab bs_ As cs b2 A2 c2 P w' :=
  ⟨h.bel.trans (hb.mono h.bel.size), h.b.later hb, h.s.later hb, h.o.later hb, h.pl _ _ h.p hb, h.pl⟩
theorem AhS.add {w0 w : World} {bb : Nat} {Ab : Option Addr} {bs_ : Nat} {As : Option Addr} {cs : Nat} {b2 : Nat} {A2 : Option Addr} {c2 : Nat} {P Q : World → Prop} (h : AhS w0 bb Ab bs_ As cs b2 A2 c2 P w) (hq : Q w) (hl : ∀ w w', Q w → Below w.heap.size w w' → Q w') : AhS w0 bb Ab bs_ As cs b2 A2 c2 (fun w => P w ∧ Q w) w :=
  ⟨h.bel, h.b, h.s, h.o, ⟨h.p, hq⟩, fun w w' k hb => ⟨h.pl w w' k.1 hb, hl w w' k.2 hb⟩⟩
theorem two_br {D : List HdE} {s t : List Itm} {m n : Nat} (h : D.map brS = [(s, m), (t, n)]) : ∃ A1 c1 A2 c2, D = [⟨s, A1, c1, m⟩, ⟨t, A2, c2, n⟩] := by
  match D, h with
  | [⟨a, A1, c1, x⟩, ⟨b, A2, c2, y⟩], h =>
    simp [brS] at h
    obtain ⟨⟨rfl, rfl⟩, rfl, rfl⟩ := h
    exact ⟨A1, c1, A2, c2, rfl⟩
theorem one_br {D : List HdE} {s : List Itm} {m : Nat} (h : D.map brS = [(s, m)]) : ∃ A1 c1, D = [⟨s, A1, c1, m⟩] := by
  match D, h with
  | [⟨a, A1, c1, x⟩], h =>
    simp [brS] at h
    obtain ⟨rfl, rfl⟩ := h
    exact ⟨A1, c1, rfl⟩
theorem two_st {D : List HdE} {s t : List Itm} (h : D.map HdE.s = [s, t]) : ∃ A1 c1 m A2 c2 n, D = [⟨s, A1, c1, m⟩, ⟨t, A2, c2, n⟩] := by
  match D, h with
  | [⟨a, A1, c1, x⟩, ⟨b, A2, c2, y⟩], h =>
    simp at h
    obtain ⟨rfl, rfl⟩ := h
    exact ⟨A1, c1, x, A2, c2, y, rfl⟩
theorem br_cell {w : World} {b off : Nat} {D : List HdE} (h : BrRow w (some ⟨b, off, none⟩) D) (i : Nat) (d : HdE) (hi : D[i]? = some d) : w.cell? ⟨b, off + i * 2, none⟩ = some (.slice d.A d.s.length d.cap) ∧ w.cell? ⟨b, off + i * 2 + 1, none⟩ = some (.int .i64 (d.many : Int)) := by
  obtain ⟨hlt, he⟩ := List.getElem?_eq_some_iff.1 hi
  obtain ⟨b', off', ha, -, hc⟩ := h i hlt
  cases ha
  have hd : D.getD i hd0 = d := by rw [List.getD_eq_getElem?_getD, hi]; rfl
  rw [hd] at hc
  exact ⟨hc 0 (by decide), hc 1 (by decide)⟩
theorem st_cell {T : List (List Itm)} {w : World} {b off : Nat} {D : List HdE} (h : StA T (some ⟨b, off, none⟩) D w) (i : Nat) (d : HdE) (hi : D[i]? = some d) : w.cell? ⟨b, off + i, none⟩ = some (.slice d.A d.s.length d.cap) := by
  obtain ⟨hlt, he⟩ := List.getElem?_eq_some_iff.1 hi
  obtain ⟨b', off', ha, -, hc⟩ := h.row i hlt
  cases ha
  have hd : D.getD i hd0 = d := by rw [List.getD_eq_getElem?_getD, hi]; rfl
  rw [hd] at hc
  exact hc
set_option maxHeartbeats 16000000 in
set_option maxRecDepth 1000000 in
theorem awake14_any (w : World) : Calls Try.prog 7 #[] w (Ans w (.bool true)) := by
  go_enter Try.func7, Try.ntmps7
  go_upto_region 2 with (fail)
  obtain ⟨ht, hb1⟩ := dx_one anBn w (cs := #[.int .i64 2, .int .i64 0, .int .i64 0, .int .i64 0, .int .i64 0, .int .u64 0, .int .u64 0, .int .u64 0, .int .u64 0, .string ⟨#[]⟩]) (by unfold anBn; rw [ndC_zero]; rfl)
  have HBB : Hid (Dx (w.heap.size + 1) (some ⟨w.heap.size, 0, none⟩) anB 1 1 _) := ht
  have HB1 := Lib.hid hb1
  clear ht hb1
  generalize (w.alloc (.cells #[.int .i64 2, .int .i64 0, .int .i64 0, .int .i64 0, .int .i64 0, .int .u64 0, .int .u64 0, .int .u64 0, .int .u64 0, .string ⟨#[]⟩] 48)).alloc (.cells #[.slice (some ⟨w.heap.size, 0, none⟩) 1 1] 24) = w1 at *
  generalize w.heap.size + 1 = bb at *
  generalize (some ⟨w.heap.size, 0, none⟩ : Option Addr) = Ab at *
  go_upto_region 3 with (fail)
  obtain ⟨ht, hb1⟩ := dx_one anEn w1 (cs := #[.int .i64 1, .int .i64 0, .int .i64 0, .int .i64 0, .int .i64 0, .int .u64 0, .int .u64 0, .int .u64 0, .int .u64 0, .string ⟨#[]⟩]) (by unfold anEn; rw [ndC_zero]; rfl)
  have HE : Hid (Dx (w1.heap.size + 1) (some ⟨w1.heap.size, 0, none⟩) anE 1 1 _) := ht
  have HBB2 := Lib.hid (HBB.out.later hb1)
  have HB2 := Lib.hid (HB1.out.trans (hb1.mono HB1.out.size))
  clear ht hb1 HBB HB1
  generalize (w1.alloc (.cells #[.int .i64 1, .int .i64 0, .int .i64 0, .int .i64 0, .int .i64 0, .int .u64 0, .int .u64 0, .int .u64 0, .int .u64 0, .string ⟨#[]⟩] 48)).alloc (.cells #[.slice (some ⟨w1.heap.size, 0, none⟩) 1 1] 24) = w2 at *
  generalize w1.heap.size + 1 = be at *
  generalize (some ⟨w1.heap.size, 0, none⟩ : Option Addr) = Ae at *
  have e0 := HE.out.load
  have e1 := HBB2.out.load
  have CALL := Lib.hid (HBB2.out.isD.rwrap anB_sm 6 0 0)
  go_wp2_with fail
  refine CALL.out.mono ?_; intro e v hp; obtain ⟨s, rfl, ho, hb⟩ := hp
  obtain ⟨As, cs, hc, hv, hr⟩ := ho.isD
  have el : (wrapL 6 0 0 anB).length = 2 := rfl
  rw [el] at hc hv
  obtain rfl : s = .slice As 2 cs := by simpa using hv
  have hbb := hb.trans ((Below.refl _ _).alloc hb.size (.cells #[.slice As 2 cs] 24))
  have HN3 : Hid (Dx v.heap.size As anS 2 cs _) := dx_of hr el hc
  have He3 := Lib.hid (HE.out.later hbb)
  have Hb3 := Lib.hid (HBB2.out.later hbb)
  have B3 := Lib.hid (HB2.out.trans (hbb.mono HB2.out.size))
  clear HE HBB2 HB2 CALL hb ho hr hv hc e0 e1 el hbb
  go_upto_region 4 with (fail)
  generalize v.alloc (.cells #[.slice As 2 cs] 24) = w3 at *
  generalize v.heap.size = bs_ at *
  have e0 := He3.out.load
  have e1 := Hb3.out.load
  have e2 := HN3.out.load
  have CALL := Lib.hid (He3.out.isD.rpair He3.out.isD anE_sm anE_sm 5)
  go_wp2_with fail
  refine CALL.out.mono ?_; intro e v hp; obtain ⟨s, rfl, ho, hb⟩ := hp
  obtain ⟨A2, c2, hc, hv, hr⟩ := ho.isD
  have el : (pairL 5 anE anE).length = 3 := rfl
  rw [el] at hc hv
  obtain rfl : s = .slice A2 3 c2 := by simpa using hv
  have hbb := hb.trans ((Below.refl _ _).alloc hb.size (.cells #[.slice A2 3 c2] 24))
  have HN4 : Hid (Dx v.heap.size A2 anO 3 c2 _) := dx_of hr el hc
  have Hb4 := Lib.hid (Hb3.out.later hbb)
  have Hs4 := Lib.hid (HN3.out.later hbb)
  have B4 := Lib.hid (B3.out.trans (hbb.mono B3.out.size))
  clear He3 Hb3 HN3 B3 CALL hb ho hr hv hc e0 e1 e2 el hbb
  go_upto_region 5 with (fail)
  generalize v.alloc (.cells #[.slice A2 3 c2] 24) = w4 at *
  generalize v.heap.size = b2 at *
  have HS : Hid (AhS w bb Ab bs_ As cs b2 A2 c2 (fun _ => True) w4) := ⟨B4.out, Hb4.out, Hs4.out, HN4.out, trivial, fun _ _ _ _ => trivial⟩
  clear B4 Hb4 Hs4 HN4
  have HST : Hid (∀ w', Calls Try.prog 11 #[.agg #[.slice As 2 cs]] w' (fun e w'' => ∃ v, e = .returned v ∧ StV (stL anS) v w'' ∧ Below w'.heap.size w' w'')) := fun w' => start14_any anS As cs (by decide) w'
  have HSO : Hid (∀ w', Calls Try.prog 11 #[.agg #[.slice A2 3 c2]] w' (fun e w'' => ∃ v, e = .returned v ∧ StV (stL anO) v w'' ∧ Below w'.heap.size w' w'')) := fun w' => start14_any anO A2 c2 (by decide) w'
  have HSB : Hid (∀ w', Calls Try.prog 11 #[.agg #[.slice Ab 1 1]] w' (fun e w'' => ∃ v, e = .returned v ∧ StV (stL anB) v w'' ∧ Below w'.heap.size w' w'')) := fun w' => start14_any anB Ab 1 (by decide) w'
  have HHS : Hid (∀ w' B k, NRow w' As anS → ItRow w' B (stL anS) → Calls Try.prog 10 #[.agg #[.slice As 2 cs], .slice B (stL anS).length k] w' (fun e w'' => ∃ v, e = .returned v ∧ BrV [([], 1), ([⟨1, 0, 0, 0⟩, ⟨1, 1, 0, 0⟩], 1)] v w'' ∧ Below w'.heap.size w' w'')) := fun w' B k h1 h2 => (hdHeads_any anS As cs (stL anS) B k hdStar_rgt (by decide) hw_txt1 (st_form (by decide)) (by decide) w' h1 h2).mono fun e w'' h => by
    have := hds_known h; rw [hw_star] at this; exact this
  have HHO : Hid (∀ w' B k, NRow w' A2 anO → ItRow w' B (stL anO) → Calls Try.prog 10 #[.agg #[.slice A2 3 c2], .slice B (stL anO).length k] w' (fun e w'' => ∃ v, e = .returned v ∧ BrV [([], 2)] v w'' ∧ Below w'.heap.size w' w'')) := fun w' B k h1 h2 => (hdHeads_any anO A2 c2 (stL anO) B k hdOr_rgt (by decide) hw_txt2 (st_form (by decide)) (by decide) w' h1 h2).mono fun e w'' h => by
    have := hds_known h; rw [hw_or] at this; exact this
  have HOS : Hid (∀ w' B k, (stL anS).length ≤ k → NRow w' As anS → ItRow w' B (stL anS) → Calls Try.prog 18 #[.agg #[.slice As 2 cs], .slice B (stL anS).length k] w' (fun e w'' => ∃ v, e = .returned v ∧ StsV [[], [⟨1, 0, 0, 0⟩, ⟨1, 1, 0, 0⟩]] v w'' ∧ Below w'.heap.size w' w'')) := fun w' B k hk h1 h2 => (hdOpen_any anS As cs ⟨1, (anS.length : Int) - 1, 0, 0⟩ [] B k hk hdStar_rgt (by decide) (st_form (by decide)) hw_r1 (by decide) w' h1 h2).mono fun e w'' h => by
    have := ho_known h; rw [hw_opn] at this; exact this
  have HOD : Hid (∀ w' B, NRow w' As anS → ItRow w' B [⟨5, 0, 1, 0⟩] → Calls Try.prog 18 #[.agg #[.slice As 2 cs], .slice B 1 1] w' (fun e w'' => ∃ v, e = .returned v ∧ StsV [] v w'' ∧ Below w'.heap.size w' w'')) := fun w' B h1 h2 => (hdOpen_any anS As cs ⟨5, 0, 1, 0⟩ [] B 1 (by decide) hdStar_rgt (by decide) hw_form hw_r3 (by decide) w' h1 h2).mono fun e w'' h => by
    have := ho_known h; rw [hw_dead] at this; exact this
  refine wp_region_stable (S := (AhS w bb Ab bs_ As cs b2 A2 c2 (fun _ => True))) (hSt := fun _ _ h hb => h.later hb) (plan := [[(3, none)], [(3, none)], [(21, some 1)], [(20, some 0), (22, some 2)], [(23, some 3)]]) (by kernel_rfl) (by kernel_rfl) (by kernel_rfl) ?hS ?_
  rotate_left
  iterate 2 first
    | (refine chain_skip (by rfl) (by rfl) ?_)
    | (apply chain_want (by rfl)
       · intro act wx hS hr
         simp at hr
         have e0 := hS.s.load
         go_simp
         (try go_ints)
         first
           | exact Done.same
      )
  (refine chain_rel (StV (stL anS)) (StV.later (stL anS)) (by rfl) ?_ ?_
   · intro act wx hS hr
     simp at hr
     have e0 := hS.s.load
     all_goals go_simp
     with_reducible refine Calls.mono (HST.out _) ?_
     rintro e w' ⟨v, rfl, hv, hb⟩
     exact Done.rel hb hv
  )
  (refine chain_rel (BrV [([], 1), ([⟨1, 0, 0, 0⟩, ⟨1, 1, 0, 0⟩], 1)]) (BrV.later [([], 1), ([⟨1, 0, 0, 0⟩, ⟨1, 1, 0, 0⟩], 1)]) (by rfl) ?_ ?_
   · intro act wx hS hr
     simp at hr
     have e0 := hS.s.load
     obtain ⟨hr1, u2, hr2, B2, k2, rfl, hk2, hq2⟩ := hr
     all_goals go_simp
     with_reducible refine Calls.mono (HHS.out _ B2 k2 hS.s.row hq2) ?_
     rintro e w' ⟨v, rfl, hv, hb⟩
     exact Done.rel hb hv
  )
  (refine chain_rel (BrV [([], 1), ([⟨1, 0, 0, 0⟩, ⟨1, 1, 0, 0⟩], 1)]) (BrV.later [([], 1), ([⟨1, 0, 0, 0⟩, ⟨1, 1, 0, 0⟩], 1)]) (by rfl) ?_ ?_
   · intro act wx hS hr
     simp at hr
     have e0 := hS.s.load
     obtain ⟨u3, hr3, hv3⟩ := hr
     all_goals go_simp
     exact Done.rel (Below.refl _ _) hv3
  )
  show ∀ w', _ → _
  intro wz hz
  simp [Act.put]
  case hS => exact HS.out
  intro _ _ _ _ v5 hv5
  have HS2 := Lib.hid (hz.add hv5 (BrV.later [([], 1), ([⟨1, 0, 0, 0⟩, ⟨1, 1, 0, 0⟩], 1)] v5))
  clear hz hv5 HS
  have HS := HS2
  clear HS2
  go_upto_region 6 with (fail)
  refine wp_region_stable (S := (AhS w bb Ab bs_ As cs b2 A2 c2 (fun w => True ∧ BrV [([], 1), ([⟨1, 0, 0, 0⟩, ⟨1, 1, 0, 0⟩], 1)] v5 w))) (hSt := fun _ _ h hb => h.later hb) (plan := [[(4, none)], [(4, none)], [(25, some 1)], [(24, some 0), (26, some 2)], [(27, some 3)]]) (by kernel_rfl) (by kernel_rfl) (by kernel_rfl) ?hS ?_
  rotate_left
  iterate 2 first
    | (refine chain_skip (by rfl) (by rfl) ?_)
    | (apply chain_want (by rfl)
       · intro act wx hS hr
         simp at hr
         have e0 := hS.o.load
         go_simp
         (try go_ints)
         first
           | exact Done.same
      )
  (refine chain_rel (StV (stL anO)) (StV.later (stL anO)) (by rfl) ?_ ?_
   · intro act wx hS hr
     simp at hr
     have e0 := hS.o.load
     all_goals go_simp
     with_reducible refine Calls.mono (HSO.out _) ?_
     rintro e w' ⟨v, rfl, hv, hb⟩
     exact Done.rel hb hv
  )
  (refine chain_rel (BrV [([], 2)]) (BrV.later [([], 2)]) (by rfl) ?_ ?_
   · intro act wx hS hr
     simp at hr
     have e0 := hS.o.load
     obtain ⟨hr1, u2, hr2, B2, k2, rfl, hk2, hq2⟩ := hr
     all_goals go_simp
     with_reducible refine Calls.mono (HHO.out _ B2 k2 hS.o.row hq2) ?_
     rintro e w' ⟨v, rfl, hv, hb⟩
     exact Done.rel hb hv
  )
  (refine chain_rel (BrV [([], 2)]) (BrV.later [([], 2)]) (by rfl) ?_ ?_
   · intro act wx hS hr
     simp at hr
     have e0 := hS.o.load
     obtain ⟨u3, hr3, hv3⟩ := hr
     all_goals go_simp
     exact Done.rel (Below.refl _ _) hv3
  )
  show ∀ w', _ → _
  intro wz hz
  simp [Act.put]
  case hS => exact HS.out
  intro _ _ _ _ v6 hv6
  have HS2 := Lib.hid (hz.add hv6 (BrV.later [([], 2)] v6))
  clear hz hv6 HS
  have HS := HS2
  clear HS2
  go_upto_region 7 with (fail)
  refine wp_region_stable (S := (AhS w bb Ab bs_ As cs b2 A2 c2 (fun w => (True ∧ BrV [([], 1), ([⟨1, 0, 0, 0⟩, ⟨1, 1, 0, 0⟩], 1)] v5 w) ∧ BrV [([], 2)] v6 w))) (hSt := fun _ _ h hb => h.later hb) (plan := [[(3, none)], [(3, none)], [(29, some 1)], [(28, some 0), (30, some 2)], [(31, some 3)]]) (by kernel_rfl) (by kernel_rfl) (by kernel_rfl) ?hS ?_
  rotate_left
  iterate 2 first
    | (refine chain_skip (by rfl) (by rfl) ?_)
    | (apply chain_want (by rfl)
       · intro act wx hS hr
         simp at hr
         have e0 := hS.s.load
         go_simp
         (try go_ints)
         first
           | exact Done.same
      )
  (refine chain_rel (StV (stL anS)) (StV.later (stL anS)) (by rfl) ?_ ?_
   · intro act wx hS hr
     simp at hr
     have e0 := hS.s.load
     all_goals go_simp
     with_reducible refine Calls.mono (HST.out _) ?_
     rintro e w' ⟨v, rfl, hv, hb⟩
     exact Done.rel hb hv
  )
  (refine chain_rel (StsV [[], [⟨1, 0, 0, 0⟩, ⟨1, 1, 0, 0⟩]]) (StsV.later [[], [⟨1, 0, 0, 0⟩, ⟨1, 1, 0, 0⟩]]) (by rfl) ?_ ?_
   · intro act wx hS hr
     simp at hr
     have e0 := hS.s.load
     obtain ⟨hr1, u2, hr2, B2, k2, rfl, hk2, hq2⟩ := hr
     all_goals go_simp
     with_reducible refine Calls.mono (HOS.out _ B2 k2 hk2 hS.s.row hq2) ?_
     rintro e w' ⟨v, rfl, hv, hb⟩
     exact Done.rel hb hv
  )
  (refine chain_rel (StsV [[], [⟨1, 0, 0, 0⟩, ⟨1, 1, 0, 0⟩]]) (StsV.later [[], [⟨1, 0, 0, 0⟩, ⟨1, 1, 0, 0⟩]]) (by rfl) ?_ ?_
   · intro act wx hS hr
     simp at hr
     have e0 := hS.s.load
     obtain ⟨u3, hr3, hv3⟩ := hr
     all_goals go_simp
     exact Done.rel (Below.refl _ _) hv3
  )
  show ∀ w', _ → _
  intro wz hz
  simp [Act.put]
  case hS => exact HS.out
  intro _ _ _ _ v7 hv7
  have HS2 := Lib.hid (hz.add hv7 (StsV.later [[], [⟨1, 0, 0, 0⟩, ⟨1, 1, 0, 0⟩]] v7))
  clear hz hv7 HS HHS HHO HSO HOS
  have HS := HS2
  clear HS2
  obtain ⟨⟨⟨-, HB5⟩, HB6⟩, HB7⟩ := HS.out.p
  obtain ⟨A5, k5, D5, rfl, q5⟩ := HB5
  obtain ⟨A1, c1, A3, c3, rfl⟩ := two_br q5.brs
  obtain ⟨b5, o5, rfl, -, -⟩ := q5.row 0 (Nat.zero_lt_succ _)
  have f5 := (q5.its ⟨[⟨1, 0, 0, 0⟩, ⟨1, 1, 0, 0⟩], A3, c3, 1⟩ (by simp)) 0 (Nat.zero_lt_succ _)
  obtain ⟨b3, o3, hA3, -, -⟩ := f5
  simp only at hA3
  subst hA3
  obtain ⟨A6, k6, D6, rfl, q6⟩ := HB6
  obtain ⟨A4, c4, rfl⟩ := one_br q6.brs
  obtain ⟨b6, o6, rfl, -, -⟩ := q6.row 0 (Nat.zero_lt_succ _)
  obtain ⟨A7, k7, D7, rfl, q7⟩ := HB7
  obtain ⟨A8, c8, m8, A9, c9, m9, rfl⟩ := two_st q7.sts
  obtain ⟨b7, o7, rfl, -, -⟩ := q7.row 0 (Nat.zero_lt_succ _)
  generalize [([], 1), ([(⟨1, 0, 0, 0⟩ : Itm), ⟨1, 1, 0, 0⟩], 1)] = T5 at *
  generalize [([], 2)] = T6 at *
  generalize [[], [(⟨1, 0, 0, 0⟩ : Itm), ⟨1, 1, 0, 0⟩]] = T7 at *
  have HS2 : Hid (AhS w bb Ab bs_ As cs b2 A2 c2 (fun w => BrA T5 (some ⟨b5, o5, none⟩) [⟨[], A1, c1, 1⟩, ⟨[⟨1, 0, 0, 0⟩, ⟨1, 1, 0, 0⟩], some ⟨b3, o3, none⟩, c3, 1⟩] w ∧ BrA T6 (some ⟨b6, o6, none⟩) [⟨[], A4, c4, 2⟩] w ∧ StA T7 (some ⟨b7, o7, none⟩) [⟨[], A8, c8, m8⟩, ⟨[⟨1, 0, 0, 0⟩, ⟨1, 1, 0, 0⟩], A9, c9, m9⟩] w) wz) := ⟨HS.out.bel, HS.out.b, HS.out.s, HS.out.o, ⟨q5, q6, q7⟩, fun _ _ h hb => ⟨h.1.later hb, h.2.1.later hb, h.2.2.later hb⟩⟩
  clear q5 q6 q7 HS
  have HS := HS2
  clear HS2
  go_upto_region 8 with (fail)
  have e0 := HS.out.s.load
  have hbb := (Below.refl wz.heap.size wz).alloc (Nat.le_refl _) (.cells (itV ⟨5, 0, 1, 0⟩) 43)
  have HSA := Lib.hid (HS.out.later hbb)
  have HX := Lib.hid (HOD.out _ _ HSA.out.s.row (ItRow.one (p := ⟨5, 0, 1, 0⟩) (Blk.new wz (itV ⟨5, 0, 1, 0⟩) 43)))
  clear hbb HS HOD
  go_wp2_with fail
  refine HX.out.mono ?_
  rintro e w9 ⟨v, rfl, hv, hb⟩
  obtain ⟨A, kd, D, rfl, hD⟩ := hv
  obtain rfl : D = [] := List.map_eq_nil_iff.1 hD.sts
  have HS := Lib.hid (HSA.out.later hb)
  clear hb hD HX HSA e0
  go_upto_region 9 with (fail)
  go_upto_region 11 with (fail)
  have HQ : Hid (∀ w, (binOp .eql 43 (.agg #[.int .i64 1, .int .i64 0, .int .i64 0, .int .i64 0]) (.agg #[.int .i64 1, .int .i64 0, .int .i64 0, .int .i64 0])).run Try.prog w = .ok (.bool true) w) := fun w => eql_it ⟨1, 0, 0, 0⟩ ⟨1, 0, 0, 0⟩ w
  have HG : Hid (∀ o1 o2 w, (eqGuard .eql 43 o1 o2 (.agg #[.int .i64 1, .int .i64 0, .int .i64 0, .int .i64 0]) (.agg #[.int .i64 1, .int .i64 0, .int .i64 0, .int .i64 0])).run Try.prog w = .ok () w) := fun o1 o2 w => eqGuard_eql_it o1 o2 ⟨1, 0, 0, 0⟩ ⟨1, 0, 0, 0⟩ w
  have HSM : Hid (∀ w', ItRow w' A9 [⟨1, 0, 0, 0⟩, ⟨1, 1, 0, 0⟩] → ItRow w' (some ⟨b3, o3, none⟩) [⟨1, 0, 0, 0⟩, ⟨1, 1, 0, 0⟩] → Calls Try.prog 17 #[.slice A9 2 c9, .slice (some ⟨b3, o3, none⟩) 2 c3] w' (Ans w' (.bool true))) := fun w' h1 h2 => by
    have := rstsame_any [⟨1, 0, 0, 0⟩, ⟨1, 1, 0, 0⟩] [⟨1, 0, 0, 0⟩, ⟨1, 1, 0, 0⟩] A9 (some ⟨b3, o3, none⟩) c9 c3 w' h1 h2 (by decide) (by decide)
    rw [decide_eq_true rfl] at this; exact this
  have HR0 : Hid (∀ w', NRow w' As anS → Calls Try.prog 12 #[.agg #[.slice As 2 cs], .slice none 0 0] w' (Ans w' (.bool true))) := fun w' h => hdReadyS_any anS As cs [] none 0 (by decide) (fun y hy => by cases hy) (by decide) (by decide) w' h (ItRow.nil _ _)
  have HR1 : Hid (∀ w' B k, NRow w' As anS → ItRow w' B (stL anS) → Calls Try.prog 12 #[.agg #[.slice As 2 cs], .slice B (stL anS).length k] w' (Ans w' (.bool false))) := fun w' B k h1 h2 => by
    have := hdReadyS_any anS As cs (stL anS) B k (by decide) (st_form (by decide)) (by decide) (by decide) w' h1 h2
    rw [hw_r1] at this; exact this
  have HR2 : Hid (∀ w' B k, NRow w' Ab anB → ItRow w' B (stL anB) → Calls Try.prog 12 #[.agg #[.slice Ab 1 1], .slice B (stL anB).length k] w' (Ans w' (.bool true))) := fun w' B k h1 h2 => by
    have := hdReadyS_any anB Ab 1 (stL anB) B k (by decide) (st_form (by decide)) (by decide) (by decide) w' h1 h2
    rw [hw_r2] at this; exact this
  refine wp_region_stable (S := (AhS w bb Ab bs_ As cs b2 A2 c2 (fun w => BrA T5 (some ⟨b5, o5, none⟩) [⟨[], A1, c1, 1⟩, ⟨[⟨1, 0, 0, 0⟩, ⟨1, 1, 0, 0⟩], some ⟨b3, o3, none⟩, c3, 1⟩] w ∧ BrA T6 (some ⟨b6, o6, none⟩) [⟨[], A4, c4, 2⟩] w ∧ StA T7 (some ⟨b7, o7, none⟩) [⟨[], A8, c8, m8⟩, ⟨[⟨1, 0, 0, 0⟩, ⟨1, 1, 0, 0⟩], A9, c9, m9⟩] w))) (hSt := fun _ _ h hb => h.later hb) (plan := [[(5, none)], [(49, some 0)], [(50, some 1)], [(51, some 2)], [(52, some 3)], [(53, some 4)], [(54, some 5)], [(5, none)], [(56, some 7)], [(57, some 8)], [(58, some 9)], [(59, some 10)], [(55, some 6), (60, some 11)], [(61, some 12)], [(5, none)], [(63, some 14)], [(64, some 15)], [(65, some 16)], [(66, some 17)], [(67, some 18)], [(62, some 13), (68, some 19)], [(69, some 20)], [(5, none)], [(71, some 22)], [(72, some 23)], [(73, some 24)], [(74, some 25)], [(75, some 26)], [], [(76, some 27), (77, some 28)], [(70, some 21), (78, some 29)], [(79, some 30)], [(6, none)], [(81, some 32)], [(82, some 33)], [(83, some 34)], [(84, some 35)], [(80, some 31), (85, some 36)], [(86, some 37)], [(7, none)], [(88, some 39)], [(89, some 40)], [(90, some 41)], [(91, some 42)], [(87, some 38), (92, some 43)], [(93, some 44)], [(7, none)], [(95, some 46)], [(96, some 47)], [(5, none)], [(98, some 49)], [(99, some 50)], [(100, some 51)], [(97, some 48), (101, some 52)], [(94, some 45), (102, some 53)], [(103, some 54)], [(8, none)], [(105, some 56)], [(106, some 57)], [(104, some 55), (107, some 58)], [(108, some 59)], [(3, none)], [(110, some 61)], [(109, some 60), (111, some 62)], [(112, some 63)], [(3, none)], [(3, none)], [(115, some 66)], [(114, some 65), (116, some 67)], [(117, some 68)], [(113, some 64), (118, some 69)], [(119, some 70)], [(1, none)], [(1, none)], [(122, some 73)], [(121, some 72), (123, some 74)], [(120, some 71), (124, some 75)], [(125, some 76)]]) (by kernel_rfl) (by kernel_rfl) (by kernel_rfl) ?hS ?_
  rotate_left
  iterate 67 first
    | (refine chain_skip (by rfl) (by rfl) ?_)
    | (apply chain_want (by rfl)
       · intro act wx hS hr
         simp at hr
         have e0 := hS.s.load
         have e1 := hS.b.load
         have x0 := br_cell hS.p.1.row 0 _ rfl
         have x1 := br_cell hS.p.1.row 1 _ rfl
         have y0 := br_cell hS.p.2.1.row 0 _ rfl
         have z0 := st_cell hS.p.2.2 0 _ rfl
         have z1 := st_cell hS.p.2.2 1 _ rfl
         have q3 := hS.p.1.its ⟨[⟨1, 0, 0, 0⟩, ⟨1, 1, 0, 0⟩], some ⟨b3, o3, none⟩, c3, 1⟩ (by simp)
         have q9 := hS.p.2.2.its ⟨[⟨1, 0, 0, 0⟩, ⟨1, 1, 0, 0⟩], A9, c9, m9⟩ (by simp)
         have p0 := q3.at (i := 0) (Nat.zero_lt_succ _) rfl
         unfold At4 at p0
         simp at x0 x1 y0 z0 z1 p0
         obtain ⟨x0, x2⟩ := x0
         obtain ⟨x1, x3⟩ := x1
         obtain ⟨y0, y2⟩ := y0
         obtain ⟨p0, p1, p2, p3⟩ := p0
         have hq := HQ.out
         have hg := HG.out
         go_simp
         (try go_ints)
         first
           | ((with_reducible refine (HSM.out _ q9 q3).mono ?_); rintro e w' ⟨rfl, hb⟩; exact Done.mk hb)
           | ((with_reducible refine (HR0.out _ hS.s.row).mono ?_); rintro e w' ⟨rfl, hb⟩; exact Done.mk hb)
           | (obtain ⟨hr1, v, hr2, B, k, rfl, hk, hq8⟩ := hr; simp only [hr1, hr2, Option.getD_some]; (refine (HR1.out _ B k hS.s.row hq8).mono ?_); rintro e w' ⟨rfl, hb⟩; exact Done.mk hb)
           | (obtain ⟨hr1, v, hr2, B, k, rfl, hk, hq8⟩ := hr; simp only [hr1, hr2, Option.getD_some]; (refine (HR2.out _ B k hS.b.row hq8).mono ?_); rintro e w' ⟨rfl, hb⟩; exact Done.mk hb)
           | exact Done.same
      )
  (refine chain_rel (StV (stL anS)) (StV.later (stL anS)) (by rfl) ?_ ?_
   · intro act wx hS hr
     simp at hr
     have e0 := hS.s.load
     have e1 := hS.b.load
     have x0 := br_cell hS.p.1.row 0 _ rfl
     have x1 := br_cell hS.p.1.row 1 _ rfl
     have y0 := br_cell hS.p.2.1.row 0 _ rfl
     have z0 := st_cell hS.p.2.2 0 _ rfl
     have z1 := st_cell hS.p.2.2 1 _ rfl
     have q3 := hS.p.1.its ⟨[⟨1, 0, 0, 0⟩, ⟨1, 1, 0, 0⟩], some ⟨b3, o3, none⟩, c3, 1⟩ (by simp)
     have q9 := hS.p.2.2.its ⟨[⟨1, 0, 0, 0⟩, ⟨1, 1, 0, 0⟩], A9, c9, m9⟩ (by simp)
     have p0 := q3.at (i := 0) (Nat.zero_lt_succ _) rfl
     unfold At4 at p0
     simp at x0 x1 y0 z0 z1 p0
     obtain ⟨x0, x2⟩ := x0
     obtain ⟨x1, x3⟩ := x1
     obtain ⟨y0, y2⟩ := y0
     obtain ⟨p0, p1, p2, p3⟩ := p0
     have hq := HQ.out
     have hg := HG.out
     all_goals go_simp
     with_reducible refine Calls.mono (HST.out _) ?_
     rintro e w' ⟨v, rfl, hv, hb⟩
     exact Done.rel hb hv
  )
  iterate 6 first
    | (refine chain_skip (by rfl) (by rfl) ?_)
    | (apply chain_want (by rfl)
       · intro act wx hS hr
         simp at hr
         have e0 := hS.s.load
         have e1 := hS.b.load
         have x0 := br_cell hS.p.1.row 0 _ rfl
         have x1 := br_cell hS.p.1.row 1 _ rfl
         have y0 := br_cell hS.p.2.1.row 0 _ rfl
         have z0 := st_cell hS.p.2.2 0 _ rfl
         have z1 := st_cell hS.p.2.2 1 _ rfl
         have q3 := hS.p.1.its ⟨[⟨1, 0, 0, 0⟩, ⟨1, 1, 0, 0⟩], some ⟨b3, o3, none⟩, c3, 1⟩ (by simp)
         have q9 := hS.p.2.2.its ⟨[⟨1, 0, 0, 0⟩, ⟨1, 1, 0, 0⟩], A9, c9, m9⟩ (by simp)
         have p0 := q3.at (i := 0) (Nat.zero_lt_succ _) rfl
         unfold At4 at p0
         simp at x0 x1 y0 z0 z1 p0
         obtain ⟨x0, x2⟩ := x0
         obtain ⟨x1, x3⟩ := x1
         obtain ⟨y0, y2⟩ := y0
         obtain ⟨p0, p1, p2, p3⟩ := p0
         have hq := HQ.out
         have hg := HG.out
         go_simp
         (try go_ints)
         first
           | ((with_reducible refine (HSM.out _ q9 q3).mono ?_); rintro e w' ⟨rfl, hb⟩; exact Done.mk hb)
           | ((with_reducible refine (HR0.out _ hS.s.row).mono ?_); rintro e w' ⟨rfl, hb⟩; exact Done.mk hb)
           | (obtain ⟨hr1, v, hr2, B, k, rfl, hk, hq8⟩ := hr; simp only [hr1, hr2, Option.getD_some]; (refine (HR1.out _ B k hS.s.row hq8).mono ?_); rintro e w' ⟨rfl, hb⟩; exact Done.mk hb)
           | (obtain ⟨hr1, v, hr2, B, k, rfl, hk, hq8⟩ := hr; simp only [hr1, hr2, Option.getD_some]; (refine (HR2.out _ B k hS.b.row hq8).mono ?_); rintro e w' ⟨rfl, hb⟩; exact Done.mk hb)
           | exact Done.same
      )
  (refine chain_rel (StV (stL anB)) (StV.later (stL anB)) (by rfl) ?_ ?_
   · intro act wx hS hr
     simp at hr
     have e0 := hS.s.load
     have e1 := hS.b.load
     have x0 := br_cell hS.p.1.row 0 _ rfl
     have x1 := br_cell hS.p.1.row 1 _ rfl
     have y0 := br_cell hS.p.2.1.row 0 _ rfl
     have z0 := st_cell hS.p.2.2 0 _ rfl
     have z1 := st_cell hS.p.2.2 1 _ rfl
     have q3 := hS.p.1.its ⟨[⟨1, 0, 0, 0⟩, ⟨1, 1, 0, 0⟩], some ⟨b3, o3, none⟩, c3, 1⟩ (by simp)
     have q9 := hS.p.2.2.its ⟨[⟨1, 0, 0, 0⟩, ⟨1, 1, 0, 0⟩], A9, c9, m9⟩ (by simp)
     have p0 := q3.at (i := 0) (Nat.zero_lt_succ _) rfl
     unfold At4 at p0
     simp at x0 x1 y0 z0 z1 p0
     obtain ⟨x0, x2⟩ := x0
     obtain ⟨x1, x3⟩ := x1
     obtain ⟨y0, y2⟩ := y0
     obtain ⟨p0, p1, p2, p3⟩ := p0
     have hq := HQ.out
     have hg := HG.out
     all_goals go_simp
     with_reducible refine Calls.mono (HSB.out _) ?_
     rintro e w' ⟨v, rfl, hv, hb⟩
     exact Done.rel hb hv
  )
  iterate 3 first
    | (refine chain_skip (by rfl) (by rfl) ?_)
    | (apply chain_want (by rfl)
       · intro act wx hS hr
         simp at hr
         have e0 := hS.s.load
         have e1 := hS.b.load
         have x0 := br_cell hS.p.1.row 0 _ rfl
         have x1 := br_cell hS.p.1.row 1 _ rfl
         have y0 := br_cell hS.p.2.1.row 0 _ rfl
         have z0 := st_cell hS.p.2.2 0 _ rfl
         have z1 := st_cell hS.p.2.2 1 _ rfl
         have q3 := hS.p.1.its ⟨[⟨1, 0, 0, 0⟩, ⟨1, 1, 0, 0⟩], some ⟨b3, o3, none⟩, c3, 1⟩ (by simp)
         have q9 := hS.p.2.2.its ⟨[⟨1, 0, 0, 0⟩, ⟨1, 1, 0, 0⟩], A9, c9, m9⟩ (by simp)
         have p0 := q3.at (i := 0) (Nat.zero_lt_succ _) rfl
         unfold At4 at p0
         simp at x0 x1 y0 z0 z1 p0
         obtain ⟨x0, x2⟩ := x0
         obtain ⟨x1, x3⟩ := x1
         obtain ⟨y0, y2⟩ := y0
         obtain ⟨p0, p1, p2, p3⟩ := p0
         have hq := HQ.out
         have hg := HG.out
         go_simp
         (try go_ints)
         first
           | ((with_reducible refine (HSM.out _ q9 q3).mono ?_); rintro e w' ⟨rfl, hb⟩; exact Done.mk hb)
           | ((with_reducible refine (HR0.out _ hS.s.row).mono ?_); rintro e w' ⟨rfl, hb⟩; exact Done.mk hb)
           | (obtain ⟨hr1, v, hr2, B, k, rfl, hk, hq8⟩ := hr; simp only [hr1, hr2, Option.getD_some]; (refine (HR1.out _ B k hS.s.row hq8).mono ?_); rintro e w' ⟨rfl, hb⟩; exact Done.mk hb)
           | (obtain ⟨hr1, v, hr2, B, k, rfl, hk, hq8⟩ := hr; simp only [hr1, hr2, Option.getD_some]; (refine (HR2.out _ B k hS.b.row hq8).mono ?_); rintro e w' ⟨rfl, hb⟩; exact Done.mk hb)
           | exact Done.same
      )
  show ∀ w', _ → _
  intro wz hz
  simp [Act.put]
  case hS => exact HS.out
  intro _ _ _ _
  have HZ := Lib.hid hz
  clear hz
  go_wp2
  go_ret
  exact ⟨rfl, HZ.out.bel⟩
end Go.Proofs.Ytgabifebcfgngaa
