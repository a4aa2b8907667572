/- The anchor of layer 8. -/
import Derived.Test.YtpbadglfegcdjaaDoorM23
namespace Go.Proofs.YtpbadglfegcdjaaDoor
open Go Go.RowKit
set_option linter.unusedVariables false
set_option linter.unusedSimpArgs false
set_option maxRecDepth 100000

def anEn : Nd := ⟨1, 0, 0, 0, 0, 0#256, []⟩
def anBn : Nd := ⟨2, 0, 0, 0, 0, 0#256, []⟩
def anE : List Nd := [anEn]
def anB : List Nd := [anBn]
def anO : List Nd := pairL 5 anE anE
def anS : List Nd := wrapL 6 0 0 anB
def anT : List Nd := wrapL 6 0 0 anS
def anR : List Nd := wrapL 7 0 3 anE
def anX : List Nd := wrapL 7 1 3 anB
def anY : List Nd := wrapL 7 3 3 anE
def anZ : List Nd := wrapL 8 0 0 anE
theorem anE_sm : Sm anE := sm_one ⟨by decide, .inl rfl⟩ (.inl rfl) (by decide)
theorem anB_sm : Sm anB := sm_one ⟨by decide, .inr (.inl rfl)⟩ (.inr (.inl rfl)) (by decide)
theorem anO_sm : Sm anO := anE_sm.pair anE_sm (by decide) (.inr rfl)
theorem anS_sm : Sm anS := anB_sm.wrap (by decide) (.inl rfl)
theorem anT_sm : Sm anT := anS_sm.wrap (by decide) (.inl rfl)
theorem anR_sm : Sm anR := anE_sm.rep (by decide) (by decide) (by decide) (by decide)
theorem anX_sm : Sm anX := anB_sm.rep (by decide) (by decide) (by decide) (by decide)
theorem anY_sm : Sm anY := anE_sm.rep (by decide) (by decide) (by decide) (by decide)
theorem anZ_sm : Sm anZ := anE_sm.wrap (by decide) (.inr (.inl rfl))
theorem anS_right : rgB anS = true := by
  unfold rgB
  rw [(formB_iff anS).2 anS_sm.form, show (fstW anS).2 = false by decide]; rfl
theorem anT_wrong : rgB anT = false := by
  unfold rgB
  rw [show (fstW anT).2 = true by decide]; rfl
theorem anR_wrong : rgB anR = false := by
  unfold rgB
  rw [show (fstW anR).2 = true by decide]; rfl
theorem an0_wrong : rgB [] = false := by
  unfold rgB formB
  simp
theorem nright_nil {w : World} (hT : U8T w) : Calls Tryd.prog 9 #[.agg #[.slice none 0 0]] w (Ans w (.bool false)) := by
  have q := nright_any [] none 0 (by simp) (fun n hn => by cases hn) (fun n hn => by cases hn) w (NRow.nil _ _) hT
  rw [an0_wrong] at q; exact q
theorem fst_T : fstV anT = .tuple #[.int .i64 2, .bool true] := by
  unfold fstV
  rw [show fstW anT = (2, true) by decide]; rfl
theorem fst_S : fstV anS = .tuple #[.int .i64 0, .bool false] := by
  unfold fstV
  rw [show fstW anS = (0, false) by decide]; rfl
/-- The boxes. -/
structure AnS (w0 : World) (be : Nat) (Ae : Option Addr) (bb : Nat) (Ab : Option Addr) (b2 : Nat) (A2 : Option Addr) (c2 : Nat) (bs_ : Nat) (As : Option Addr) (cs : Nat) (bt : Nat) (At_ : Option Addr) (ct : Nat) (br : Nat) (Ar : Option Addr) (cr : Nat) (w : World) : Prop where
  bel : Below w0.heap.size w0 w
  tab : U8T w
  e : Dx be Ae anE 1 1 w
  b : Dx bb Ab anB 1 1 w
  o : Dx b2 A2 anO 3 c2 w
  s : Dx bs_ As anS 2 cs w
  t : Dx bt At_ anT 3 ct w
  r : Dx br Ar anR 2 cr w
theorem AnS.later {w0 w w' : World} {be : Nat} {Ae : Option Addr} {bb : Nat} {Ab : Option Addr} {b2 : Nat} {A2 : Option Addr} {c2 : Nat} {bs_ : Nat} {As : Option Addr} {cs : Nat} {bt : Nat} {At_ : Option Addr} {ct : Nat} {br : Nat} {Ar : Option Addr} {cr : Nat} (h : AnS w0 be Ae bb Ab b2 A2 c2 bs_ As cs bt At_ ct br Ar cr w) (hb : Below w.heap.size w w') : AnS w0 be Ae bb Ab b2 A2 c2 bs_ As cs bt At_ ct br Ar cr w' :=
  ⟨h.bel.trans (hb.mono h.bel.size), h.tab.later hb, h.e.later hb, h.b.later hb, h.o.later hb, h.s.later hb, h.t.later hb, h.r.later hb⟩
set_option maxHeartbeats 16000000 in
set_option maxRecDepth 1000000 in
theorem awake8_any (w : World) (hT : U8T w) : Calls Tryd.prog 7 #[] w (Ans w (.bool true)) := by
  have HT := Lib.hid hT
  clear hT
  go_enter Tryd.func7, Tryd.ntmps7
  go_upto_region 2 with (fail)
  obtain ⟨ht, hb1⟩ := dx_one anEn w (cs := #[.int .i64 1, .int .i64 0, .int .i64 0, .int .i64 0, .int .i64 0, .int .u64 0, .int .u64 0, .int .u64 0, .int .u64 0, .string ⟨#[]⟩]) (by unfold anEn; rw [ndC_zero]; rfl)
  have HE : Hid (Dx (w.heap.size + 1) (some ⟨w.heap.size, 0, none⟩) anE 1 1 _) := ht
  have HB1 := Lib.hid hb1
  clear ht hb1
  generalize (w.alloc (.cells #[.int .i64 1, .int .i64 0, .int .i64 0, .int .i64 0, .int .i64 0, .int .u64 0, .int .u64 0, .int .u64 0, .int .u64 0, .string ⟨#[]⟩] 36)).alloc (.cells #[.slice (some ⟨w.heap.size, 0, none⟩) 1 1] 24) = w1 at *
  generalize w.heap.size + 1 = be at *
  generalize (some ⟨w.heap.size, 0, none⟩ : Option Addr) = Ae at *
  go_upto_region 3 with (fail)
  obtain ⟨ht, hb1⟩ := dx_one anBn w1 (cs := #[.int .i64 2, .int .i64 0, .int .i64 0, .int .i64 0, .int .i64 0, .int .u64 0, .int .u64 0, .int .u64 0, .int .u64 0, .string ⟨#[]⟩]) (by unfold anBn; rw [ndC_zero]; rfl)
  have HBB : Hid (Dx (w1.heap.size + 1) (some ⟨w1.heap.size, 0, none⟩) anB 1 1 _) := ht
  have HE2 := Lib.hid (HE.out.later hb1)
  have HB2 := Lib.hid (HB1.out.trans (hb1.mono HB1.out.size))
  clear ht hb1 HE HB1
  generalize (w1.alloc (.cells #[.int .i64 2, .int .i64 0, .int .i64 0, .int .i64 0, .int .i64 0, .int .u64 0, .int .u64 0, .int .u64 0, .int .u64 0, .string ⟨#[]⟩] 36)).alloc (.cells #[.slice (some ⟨w1.heap.size, 0, none⟩) 1 1] 24) = w2 at *
  generalize w1.heap.size + 1 = bb at *
  generalize (some ⟨w1.heap.size, 0, none⟩ : Option Addr) = Ab at *
  have e0 := HE2.out.load
  have e1 := HBB.out.load
  have CALL := Lib.hid (HE2.out.isD.rpair HE2.out.isD anE_sm anE_sm 5)
  go_wp2_with fail
  refine CALL.out.mono ?_; intro e v hp; obtain ⟨s, rfl, ho, hb⟩ := hp
  obtain ⟨A2, c2, hc, hv, hr⟩ := ho.isD
  have el : (pairL 5 anE anE).length = 3 := rfl
  rw [el] at hc hv
  obtain rfl : s = .slice A2 3 c2 := by simpa using hv
  have hbb := hb.trans ((Below.refl _ _).alloc hb.size (.cells #[.slice A2 3 c2] 24))
  have HN3 : Hid (Dx v.heap.size A2 anO 3 c2 _) := dx_of hr el hc
  have He3 := Lib.hid (HE2.out.later hbb)
  have Hb3 := Lib.hid (HBB.out.later hbb)
  have B3 := Lib.hid (HB2.out.trans (hbb.mono HB2.out.size))
  clear HE2 HBB HB2 CALL hb ho hr hv hc e0 e1 el hbb
  go_upto_region 4 with (fail)
  generalize v.alloc (.cells #[.slice A2 3 c2] 24) = w3 at *
  generalize v.heap.size = b2 at *
  have e0 := He3.out.load
  have e1 := Hb3.out.load
  have e2 := HN3.out.load
  have CALL := Lib.hid (Hb3.out.isD.rwrap anB_sm 6 0 0)
  go_wp2_with fail
  refine CALL.out.mono ?_; intro e v hp; obtain ⟨s, rfl, ho, hb⟩ := hp
  obtain ⟨As, cs, hc, hv, hr⟩ := ho.isD
  have el : (wrapL 6 0 0 anB).length = 2 := rfl
  rw [el] at hc hv
  obtain rfl : s = .slice As 2 cs := by simpa using hv
  have hbb := hb.trans ((Below.refl _ _).alloc hb.size (.cells #[.slice As 2 cs] 24))
  have HN4 : Hid (Dx v.heap.size As anS 2 cs _) := dx_of hr el hc
  have He4 := Lib.hid (He3.out.later hbb)
  have Hb4 := Lib.hid (Hb3.out.later hbb)
  have Ho4 := Lib.hid (HN3.out.later hbb)
  have B4 := Lib.hid (B3.out.trans (hbb.mono B3.out.size))
  clear He3 Hb3 HN3 B3 CALL hb ho hr hv hc e0 e1 e2 el hbb
  go_upto_region 5 with (fail)
  generalize v.alloc (.cells #[.slice As 2 cs] 24) = w4 at *
  generalize v.heap.size = bs_ at *
  have e0 := He4.out.load
  have e1 := Hb4.out.load
  have e2 := Ho4.out.load
  have e3 := HN4.out.load
  have CALL := Lib.hid (HN4.out.isD.rwrap anS_sm 6 0 0)
  go_wp2_with fail
  refine CALL.out.mono ?_; intro e v hp; obtain ⟨s, rfl, ho, hb⟩ := hp
  obtain ⟨At_, ct, hc, hv, hr⟩ := ho.isD
  have el : (wrapL 6 0 0 anS).length = 3 := rfl
  rw [el] at hc hv
  obtain rfl : s = .slice At_ 3 ct := by simpa using hv
  have hbb := hb.trans ((Below.refl _ _).alloc hb.size (.cells #[.slice At_ 3 ct] 24))
  have HN5 : Hid (Dx v.heap.size At_ anT 3 ct _) := dx_of hr el hc
  have He5 := Lib.hid (He4.out.later hbb)
  have Hb5 := Lib.hid (Hb4.out.later hbb)
  have Ho5 := Lib.hid (Ho4.out.later hbb)
  have Hs5 := Lib.hid (HN4.out.later hbb)
  have B5 := Lib.hid (B4.out.trans (hbb.mono B4.out.size))
  clear He4 Hb4 Ho4 HN4 B4 CALL hb ho hr hv hc e0 e1 e2 e3 el hbb
  go_upto_region 6 with (fail)
  generalize v.alloc (.cells #[.slice At_ 3 ct] 24) = w5 at *
  generalize v.heap.size = bt at *
  have e0 := He5.out.load
  have e1 := Hb5.out.load
  have e2 := Ho5.out.load
  have e3 := Hs5.out.load
  have e4 := HN5.out.load
  have CALL := Lib.hid (He5.out.isD.rwrap anE_sm 7 0 3)
  go_wp2_with fail
  refine CALL.out.mono ?_; intro e v hp; obtain ⟨s, rfl, ho, hb⟩ := hp
  obtain ⟨Ar, cr, hc, hv, hr⟩ := ho.isD
  have el : (wrapL 7 0 3 anE).length = 2 := rfl
  rw [el] at hc hv
  obtain rfl : s = .slice Ar 2 cr := by simpa using hv
  have hbb := hb.trans ((Below.refl _ _).alloc hb.size (.cells #[.slice Ar 2 cr] 24))
  have HN6 : Hid (Dx v.heap.size Ar anR 2 cr _) := dx_of hr el hc
  have He6 := Lib.hid (He5.out.later hbb)
  have Hb6 := Lib.hid (Hb5.out.later hbb)
  have Ho6 := Lib.hid (Ho5.out.later hbb)
  have Hs6 := Lib.hid (Hs5.out.later hbb)
  have Ht6 := Lib.hid (HN5.out.later hbb)
  have B6 := Lib.hid (B5.out.trans (hbb.mono B5.out.size))
  clear He5 Hb5 Ho5 Hs5 HN5 B5 CALL hb ho hr hv hc e0 e1 e2 e3 e4 el hbb
  go_upto_region 7 with (fail)
  generalize v.alloc (.cells #[.slice Ar 2 cr] 24) = w6 at *
  generalize v.heap.size = br at *
  have HS0 : Hid (AnS w be Ae bb Ab b2 A2 c2 bs_ As cs bt At_ ct br Ar cr _) := ⟨B6.out, HT.out.later B6.out, He6.out, Hb6.out, Ho6.out, Hs6.out, Ht6.out, HN6.out⟩
  clear HT B6 He6 Hb6 Ho6 Hs6 Ht6 HN6
  have e0 := HS0.out.e.load
  have e1 := HS0.out.b.load
  have e2 := HS0.out.o.load
  have e3 := HS0.out.s.load
  have e4 := HS0.out.t.load
  have e5 := HS0.out.r.load
  have CO := Lib.hid (HS0.out.t.isD.nfirst anT_sm fst_T)
  go_wp2_with fail
  refine (CO.out).mono ?_; rintro e x0 ⟨rfl, hb⟩
  have HS1 := Lib.hid (HS0.out.later hb)
  clear hb CO e0 e1 e2 e3 e4 e5 HS0
  have e0 := HS1.out.e.load
  have e1 := HS1.out.b.load
  have e2 := HS1.out.o.load
  have e3 := HS1.out.s.load
  have e4 := HS1.out.t.load
  have e5 := HS1.out.r.load
  have CO := Lib.hid (HS1.out.s.isD.nfirst anS_sm fst_S)
  go_wp2_with fail
  refine (CO.out).mono ?_; rintro e x1 ⟨rfl, hb⟩
  have HS2 := Lib.hid (HS1.out.later hb)
  clear hb CO e0 e1 e2 e3 e4 e5 HS1
  have e0 := HS2.out.e.load
  have e1 := HS2.out.b.load
  have e2 := HS2.out.o.load
  have e3 := HS2.out.s.load
  have e4 := HS2.out.t.load
  have e5 := HS2.out.r.load
  have CO := Lib.hid (HS2.out.o.isD.nways anO_sm (i := 2) (by decide) (x := 2) (by decide))
  go_wp2_with fail
  refine (CO.out).mono ?_; rintro e x2 ⟨rfl, hb⟩
  have HS3 := Lib.hid (HS2.out.later hb)
  clear hb CO e0 e1 e2 e3 e4 e5 HS2
  have e0 := HS3.out.e.load
  have e1 := HS3.out.b.load
  have e2 := HS3.out.o.load
  have e3 := HS3.out.s.load
  have e4 := HS3.out.t.load
  have e5 := HS3.out.r.load
  have CO := Lib.hid (HS3.out.o.isD.nways anO_sm (i := 0) (by decide) (x := 1) (by decide))
  go_wp2_with fail
  refine (CO.out).mono ?_; rintro e x3 ⟨rfl, hb⟩
  have HS4 := Lib.hid (HS3.out.later hb)
  clear hb CO e0 e1 e2 e3 e4 e5 HS3
  have e0 := HS4.out.e.load
  have e1 := HS4.out.b.load
  have e2 := HS4.out.o.load
  have e3 := HS4.out.s.load
  have e4 := HS4.out.t.load
  have e5 := HS4.out.r.load
  have CO := Lib.hid (HS4.out.s.isD.nways anS_sm (i := 1) (by decide) (x := 1) (by decide))
  go_wp2_with fail
  refine (CO.out).mono ?_; rintro e x4 ⟨rfl, hb⟩
  have HS5 := Lib.hid (HS4.out.later hb)
  clear hb CO e0 e1 e2 e3 e4 e5 HS4
  have e0 := HS5.out.e.load
  have e1 := HS5.out.b.load
  have e2 := HS5.out.o.load
  have e3 := HS5.out.s.load
  have e4 := HS5.out.t.load
  have e5 := HS5.out.r.load
  have CO := Lib.hid (HS5.out.t.isD.nways anT_sm (i := 2) (by decide) (x := 2) (by decide))
  go_wp2_with fail
  refine (CO.out).mono ?_; rintro e x5 ⟨rfl, hb⟩
  have HS6 := Lib.hid (HS5.out.later hb)
  clear hb CO e0 e1 e2 e3 e4 e5 HS5
  have e0 := HS6.out.e.load
  have e1 := HS6.out.b.load
  have e2 := HS6.out.o.load
  have e3 := HS6.out.s.load
  have e4 := HS6.out.t.load
  have e5 := HS6.out.r.load
  have CO := Lib.hid (HS6.out.r.isD.nways anR_sm (i := 1) (by decide) (x := 2) (by decide))
  go_wp2_with fail
  refine (CO.out).mono ?_; rintro e x6 ⟨rfl, hb⟩
  have HS7 := Lib.hid (HS6.out.later hb)
  clear hb CO e0 e1 e2 e3 e4 e5 HS6
  have e0 := HS7.out.e.load
  have e1 := HS7.out.b.load
  have e2 := HS7.out.o.load
  have e3 := HS7.out.s.load
  have e4 := HS7.out.t.load
  have e5 := HS7.out.r.load
  have CO := Lib.hid (HS7.out.b.isD.rwrap anB_sm 7 1 3)
  go_wp2_with fail
  refine (CO.out).mono ?_; intro e x7 hp; obtain ⟨s, rfl, ho, hb⟩ := hp
  have HI : Hid (IsD anX (.agg #[s]) x7) := ho.isD
  have HS8 := Lib.hid (HS7.out.later hb)
  clear hb ho CO e0 e1 e2 e3 e4 e5 HS7
  have e0 := HS8.out.e.load
  have e1 := HS8.out.b.load
  have e2 := HS8.out.o.load
  have e3 := HS8.out.s.load
  have e4 := HS8.out.t.load
  have e5 := HS8.out.r.load
  have CO := Lib.hid (HI.out.nways anX_sm (i := 1) (by decide) (x := 0) (by decide))
  go_wp2_with fail
  refine (CO.out).mono ?_; rintro e x8 ⟨rfl, hb⟩
  have HS9 := Lib.hid (HS8.out.later hb)
  clear hb CO e0 e1 e2 e3 e4 e5 HS8
  clear HI
  have e0 := HS9.out.e.load
  have e1 := HS9.out.b.load
  have e2 := HS9.out.o.load
  have e3 := HS9.out.s.load
  have e4 := HS9.out.t.load
  have e5 := HS9.out.r.load
  have CO := Lib.hid (HS9.out.e.isD.rwrap anE_sm 7 3 3)
  go_wp2_with fail
  refine (CO.out).mono ?_; intro e x9 hp; obtain ⟨s, rfl, ho, hb⟩ := hp
  have HI : Hid (IsD anY (.agg #[s]) x9) := ho.isD
  have HS10 := Lib.hid (HS9.out.later hb)
  clear hb ho CO e0 e1 e2 e3 e4 e5 HS9
  have e0 := HS10.out.e.load
  have e1 := HS10.out.b.load
  have e2 := HS10.out.o.load
  have e3 := HS10.out.s.load
  have e4 := HS10.out.t.load
  have e5 := HS10.out.r.load
  have CO := Lib.hid (HI.out.nways anY_sm (i := 1) (by decide) (x := 1) (by decide))
  go_wp2_with fail
  refine (CO.out).mono ?_; rintro e x10 ⟨rfl, hb⟩
  have HS11 := Lib.hid (HS10.out.later hb)
  clear hb CO e0 e1 e2 e3 e4 e5 HS10
  clear HI
  have e0 := HS11.out.e.load
  have e1 := HS11.out.b.load
  have e2 := HS11.out.o.load
  have e3 := HS11.out.s.load
  have e4 := HS11.out.t.load
  have e5 := HS11.out.r.load
  have CO := Lib.hid (HS11.out.e.isD.rwrap anE_sm 8 0 0)
  go_wp2_with fail
  refine (CO.out).mono ?_; intro e x11 hp; obtain ⟨s, rfl, ho, hb⟩ := hp
  have HI : Hid (IsD anZ (.agg #[s]) x11) := ho.isD
  have HS12 := Lib.hid (HS11.out.later hb)
  clear hb ho CO e0 e1 e2 e3 e4 e5 HS11
  have e0 := HS12.out.e.load
  have e1 := HS12.out.b.load
  have e2 := HS12.out.o.load
  have e3 := HS12.out.s.load
  have e4 := HS12.out.t.load
  have e5 := HS12.out.r.load
  have CO := Lib.hid (HI.out.nways anZ_sm (i := 1) (by decide) (x := 0) (by decide))
  go_wp2_with fail
  refine (CO.out).mono ?_; rintro e x12 ⟨rfl, hb⟩
  have HS13 := Lib.hid (HS12.out.later hb)
  clear hb CO e0 e1 e2 e3 e4 e5 HS12
  clear HI
  have e0 := HS13.out.e.load
  have e1 := HS13.out.b.load
  have e2 := HS13.out.o.load
  have e3 := HS13.out.s.load
  have e4 := HS13.out.t.load
  have e5 := HS13.out.r.load
  have CO := Lib.hid (HS13.out.s.isD.nright anS_sm HS13.out.tab anS_right)
  go_wp2_with fail
  refine (CO.out).mono ?_; rintro e x13 ⟨rfl, hb⟩
  have HS14 := Lib.hid (HS13.out.later hb)
  clear hb CO e0 e1 e2 e3 e4 e5 HS13
  have e0 := HS14.out.e.load
  have e1 := HS14.out.b.load
  have e2 := HS14.out.o.load
  have e3 := HS14.out.s.load
  have e4 := HS14.out.t.load
  have e5 := HS14.out.r.load
  have CO := Lib.hid (HS14.out.t.isD.nright anT_sm HS14.out.tab anT_wrong)
  go_wp2_with fail
  refine (CO.out).mono ?_; rintro e x14 ⟨rfl, hb⟩
  have HS15 := Lib.hid (HS14.out.later hb)
  clear hb CO e0 e1 e2 e3 e4 e5 HS14
  have e0 := HS15.out.e.load
  have e1 := HS15.out.b.load
  have e2 := HS15.out.o.load
  have e3 := HS15.out.s.load
  have e4 := HS15.out.t.load
  have e5 := HS15.out.r.load
  have CO := Lib.hid (HS15.out.r.isD.nright anR_sm HS15.out.tab anR_wrong)
  go_wp2_with fail
  refine (CO.out).mono ?_; rintro e x15 ⟨rfl, hb⟩
  have HS16 := Lib.hid (HS15.out.later hb)
  clear hb CO e0 e1 e2 e3 e4 e5 HS15
  have e0 := HS16.out.e.load
  have e1 := HS16.out.b.load
  have e2 := HS16.out.o.load
  have e3 := HS16.out.s.load
  have e4 := HS16.out.t.load
  have e5 := HS16.out.r.load
  have CO := Lib.hid (nright_nil HS16.out.tab)
  go_wp2_with fail
  refine (CO.out).mono ?_; rintro e x16 ⟨rfl, hb⟩
  have HS17 := Lib.hid (HS16.out.later hb)
  clear hb CO e0 e1 e2 e3 e4 e5 HS16
  go_wp2
  go_ret
  exact ⟨rfl, HS17.out.bel⟩
end Go.Proofs.YtpbadglfegcdjaaDoor
/- The statement NullTells of layer 8, walked. -/
namespace Go.Proofs.YtpbadglfegcdjaaDoor
open Go Go.RowKit
set_option linter.unusedVariables false
set_option linter.unusedSimpArgs false

/-- A description in its box, the tables. -/
structure NuS (w0 : World) (A : Option Addr) (l : List Nd) (c : Nat) (w : World) : Prop where
  s : FstS w0 A l c w
  t : U8T w
theorem NuS.later {w0 w w' : World} {A : Option Addr} {l : List Nd} {c : Nat} (h : NuS w0 A l c w) (hb : Below w.heap.size w w') : NuS w0 A l c w' := ⟨h.s.later hb, h.t.later hb⟩
theorem NuS.isD {w0 w : World} {A : Option Addr} {l : List Nd} {c : Nat} (h : NuS w0 A l c w) (hc : l.length ≤ c) : IsD l (.agg #[.slice A l.length c]) w := ⟨A, c, hc, rfl, h.s.row⟩
theorem NuS.new {w : World} {A : Option Addr} {l : List Nd} (c : Nat) (hrow : NRow w A l) (hT : U8T w) : NuS w A l c (w.alloc (.cells #[.slice A l.length c] 24)) :=
  ⟨⟨(Below.refl w.heap.size w).alloc (Nat.le_refl _) _, hrow.later ((Below.refl w.heap.size w).alloc (Nat.le_refl _) _), Blk.new _ _ _⟩, hT.later ((Below.refl w.heap.size w).alloc (Nat.le_refl _) _)⟩
set_option maxHeartbeats 64000000 in
set_option maxRecDepth 1000000 in
theorem nulltells_walk (l : List Nd) (A : Option Addr) (c q : Nat) (hq : q < 65536) (hc1 : l.length ≤ c) (hl : l.length ≤ 9223372036854775807) (htx : Txt l) (hio : ∀ n ∈ l, IntOk n) (w : World) (hrow : NRow w A l) (hT : U8T w) :
    Calls Tryd.prog 3 #[.agg #[.slice A l.length c], .int .u16 (q : Int)] w (Ans w (.bool true)) := by
  have HS0 := Lib.hid (NuS.new c hrow hT)
  have HTX := Lib.hid htx
  have CA : Hid (∀ w', NuS w A l c w' → Calls Tryd.prog 7 #[] w' (Ans w' (.bool true))) := fun w' h => awake8_any w' h.t
  have CF : Hid (∀ w', NuS w A l c w' → Calls Tryd.prog 8 #[.agg #[.slice A l.length c]] w' (Ans w' (.bool (fewB l)))) := fun w' h => few_any l A c hl htx w' h.s.row
  have HLF : Hid (fewB l = true → l.length ≤ 100) := fun h => (few_txt h).1
  have HIO := Lib.hid hio
  clear hrow htx hT hio
  go_enter Tryd.func3, Tryd.ntmps3
  go_upto_region 1 with (fail)
  generalize w.alloc (.cells #[.slice A l.length c] 24) = w1 at *
  cases hf : fewB l with
  | false =>
    rw [hf] at CF
    clear hf HLF
    have CN := CA
    have CR := CA
    refine wp_region_stable (S := (NuS w A l c)) (hSt := fun _ _ h hb => h.later hb) (plan := [[], [(10, some 0)], [(11, some 1)], [(2, none)], [(13, some 3)], [(14, some 4)], [(12, some 2), (15, some 5)], [(16, some 6)], [(2, none)], [(18, some 8)], [(2, none)], [(20, some 10)], [(19, some 9), (21, some 11)], [(17, some 7), (22, some 12)]]) (by kernel_rfl) (by kernel_rfl) (by kernel_rfl) ?hS ?_
    rotate_left
    iterate 14 first
      | (refine chain_skip (by rfl) (by rfl) ?_)
      | (apply chain_want (by rfl)
         · intro act wx hS hr
           simp at hr
           have e0 := hS.s.box.cell 0
           simp at e0
           go_simp
           (try go_ints)
           first
             | ((with_reducible refine (CA.out _ hS).mono ?_); rintro e w' ⟨rfl, hb⟩; exact Done.mk hb)
             | ((with_reducible refine (CF.out _ hS).mono ?_); rintro e w' ⟨rfl, hb⟩; exact Done.mk hb)
             | ((with_reducible refine (CN.out _ hS).mono ?_); rintro e w' ⟨rfl, hb⟩; exact Done.mk hb)
             | ((with_reducible refine (CR.out _ hS).mono ?_); rintro e w' ⟨rfl, hb⟩; exact Done.mk hb)
             | exact Done.same
        )
    show ∀ w', _ → _
    intro w2 hw2
    simp [Act.put]
    case hS => exact HS0.out
    have HS2 := Lib.hid hw2
    clear hw2 HS0
    go_wp2_with fail
    refine (CA.out _ HS2.out).mono ?_; rintro e w3 ⟨rfl, hb⟩
    have HS3 := Lib.hid (HS2.out.later hb)
    clear hb HS2
    have e0 := HS3.out.s.box.cell 0
    simp at e0
    go_wp2_with fail
    refine (CF.out _ HS3.out).mono ?_; rintro e w4 ⟨rfl, hb⟩
    have HS4 := Lib.hid (HS3.out.later hb)
    clear hb e0 HS3
    go_wp2
    go_ret
    exact ⟨rfl, HS4.out.s.bel⟩
  | true =>
    have hlen := HLF.out hf
    rw [hf] at CF
    clear hf HLF
    have CN : Hid (∀ w', NuS w A l c w' → Calls Tryd.prog 9 #[.agg #[.slice A l.length c]] w' (Ans w' (.bool (rgB l)))) := fun w' h => nright_any l A c (by omega) HIO.out HTX.out w' h.s.row h.t
    have CR : Hid (∀ w', NuS w A l c w' → Calls Tryd.prog 10 #[.agg #[.slice A l.length c]] w' (Ans w' (.bool (rgB l)))) := fun w' h => rright_any l A c hc1 (by omega) HTX.out w' h.s.row
    generalize rgB l = r at *
    have hrr : (r != r) = false := by simp
    refine wp_region_stable (S := (NuS w A l c)) (hSt := fun _ _ h hb => h.later hb) (plan := [[], [(10, some 0)], [(11, some 1)], [(2, none)], [(13, some 3)], [(14, some 4)], [(12, some 2), (15, some 5)], [(16, some 6)], [(2, none)], [(18, some 8)], [(2, none)], [(20, some 10)], [(19, some 9), (21, some 11)], [(17, some 7), (22, some 12)]]) (by kernel_rfl) (by kernel_rfl) (by kernel_rfl) ?hS ?_
    rotate_left
    iterate 14 first
      | (refine chain_skip (by rfl) (by rfl) ?_)
      | (apply chain_want (by rfl)
         · intro act wx hS hr
           simp at hr
           have e0 := hS.s.box.cell 0
           simp at e0
           go_simp
           (try go_ints)
           first
             | ((with_reducible refine (CA.out _ hS).mono ?_); rintro e w' ⟨rfl, hb⟩; exact Done.mk hb)
             | ((with_reducible refine (CF.out _ hS).mono ?_); rintro e w' ⟨rfl, hb⟩; exact Done.mk hb)
             | ((with_reducible refine (CN.out _ hS).mono ?_); rintro e w' ⟨rfl, hb⟩; exact Done.mk hb)
             | ((with_reducible refine (CR.out _ hS).mono ?_); rintro e w' ⟨rfl, hb⟩; exact Done.mk hb)
             | exact Done.same
        )
    show ∀ w', _ → _
    intro w2 hw2
    simp [Act.put]
    case hS => exact HS0.out
    have HS2 := Lib.hid hw2
    clear hw2 HS0 CN CR CF CA hrr
    have e0 := HS2.out.s.box.cell 0
    simp at e0
    have HF := Lib.hid (refform_any l A c (by omega) HTX.out _ HS2.out.s.row)
    cases hf : formB l with
    | false =>
      rw [hf] at HF
      clear hf
      go_wp2_with fail
      refine HF.out.mono ?_; rintro e w4 ⟨rfl, hb⟩
      have HS4 := Lib.hid (HS2.out.later hb)
      clear hb e0 HF HS2
      go_wp2
      go_ret
      exact ⟨rfl, HS4.out.s.bel⟩
    | true =>
      rw [hf] at HF
      have hfo := (formB_iff l).1 hf
      clear hf
      have HSM : Hid (Sm l) := ⟨hfo, by omega, HTX.out⟩
      have hpos := hfo.1
      clear hfo
      go_wp2_with fail
      refine HF.out.mono ?_; rintro e w4 ⟨rfl, hb⟩
      have HS4 := Lib.hid (HS2.out.later hb)
      clear hb e0 HF HS2
      have C1 : Hid (∀ w', NuS w A l c w' → Calls Tryd.prog 12 #[.agg #[.slice A l.length c]] w' (Ans w' (.tuple #[.int .i64 ((fstW l).1 : Int), .bool (fstW l).2]))) := fun w' h => (h.isD hc1).nfirst HSM.out rfl
      have C2 : Hid (∀ w', NuS w A l c w' → Calls Tryd.prog 13 #[.agg #[.slice A l.length c]] w' (Ans w' (.tuple #[.int .i64 ((fstW l).1 : Int), .bool (fstW l).2]))) := fun w' h => (h.isD hc1).rfirst HSM.out rfl
      generalize (fstW l).1 = p at *
      generalize (fstW l).2 = b at *
      have e0 := HS4.out.s.box.cell 0
      simp at e0
      go_wp2_with fail
      refine (C1.out _ HS4.out).mono ?_; rintro e w5 ⟨rfl, hb⟩
      have HS5 := Lib.hid (HS4.out.later hb)
      clear hb e0 C1 HS4
      have e0 := HS5.out.s.box.cell 0
      simp at e0
      go_wp2_with fail
      refine (C2.out _ HS5.out).mono ?_; rintro e w6 ⟨rfl, hb⟩
      have HS6 := Lib.hid (HS5.out.later hb)
      clear hb e0 C2 HS5
      have e0 := HS6.out.s.box.cell 0
      simp at e0
      have hposz : (0 : Int) < (l.length : Int) := by omega
      have hne : ((l.length : Int) == 0) = false := by rw [beq_eq_false_iff_ne]; omega
      have hmod : (q : Int) % (l.length : Int) = ((q % l.length : Nat) : Int) := by omega
      have hil : q % l.length < l.length := Nat.mod_lt _ hpos
      go_upto_region 8 with (fail)
      generalize hii : q % l.length = i at *
      rw [hmod]
      clear hii hmod hne hposz e0
      have CF : Hid (∀ w', NuS w A l c w' → Calls Tryd.prog 14 #[.agg #[.slice A l.length c], .int .i64 (i : Int)] w' (Ans w' (.int .i64 ((wyN l i : Nat) : Int)))) := fun w' h => (h.isD hc1).nways HSM.out hil rfl
      have CA : Hid (∀ w', NuS w A l c w' → Calls Tryd.prog 15 #[.agg #[.slice A l.length c], .int .i64 (i : Int)] w' (Ans w' (.int .i64 ((wyN l i : Nat) : Int)))) := fun w' h => (h.isD hc1).rways HSM.out hil rfl
      have CN := CA
      have CR := CA
      generalize wyN l i = v at *
      have hpp : ((p : Int) == (p : Int)) = true := by simp
      have hbb : (b == b) = true := by simp
      have hvv : ((v : Int) == (v : Int)) = true := by simp
      refine wp_region_stable (S := (NuS w A l c)) (hSt := fun _ _ h hb => h.later hb) (plan := [[(5, none)], [(7, none)], [(49, some 0), (50, some 1)], [(51, some 2)], [(6, none)], [(8, none)], [(53, some 4), (54, some 5)], [(52, some 3), (55, some 6)], [(56, some 7)], [(2, none)], [(9, none)], [(58, some 9), (59, some 10)], [(2, none)], [(9, none)], [(61, some 12), (62, some 13)], [(60, some 11), (63, some 14)], [(57, some 8), (64, some 15)], [(65, some 16)]]) (by kernel_rfl) (by kernel_rfl) (by kernel_rfl) ?hS ?_
      rotate_left
      iterate 18 first
        | (refine chain_skip (by rfl) (by rfl) ?_)
        | (apply chain_want (by rfl)
           · intro act wx hS hr
             simp at hr
             have e0 := hS.s.box.cell 0
             simp at e0
             go_simp
             (try go_ints)
             first
               | ((with_reducible refine (CA.out _ hS).mono ?_); rintro e w' ⟨rfl, hb⟩; exact Done.mk hb)
               | ((with_reducible refine (CF.out _ hS).mono ?_); rintro e w' ⟨rfl, hb⟩; exact Done.mk hb)
               | ((with_reducible refine (CN.out _ hS).mono ?_); rintro e w' ⟨rfl, hb⟩; exact Done.mk hb)
               | ((with_reducible refine (CR.out _ hS).mono ?_); rintro e w' ⟨rfl, hb⟩; exact Done.mk hb)
               | exact Done.same
          )
      show ∀ w', _ → _
      intro w7 hw7
      simp [Act.put]
      case hS => exact HS6.out
      have HS7 := Lib.hid hw7
      clear hw7 HS6
      go_wp2
      go_ret
      exact ⟨rfl, HS7.out.s.bel⟩
end Go.Proofs.YtpbadglfegcdjaaDoor
/- The statement NullTimes of layer 8, walked. -/
namespace Go.Proofs.YtpbadglfegcdjaaDoor
open Go Go.RowKit
set_option linter.unusedVariables false
set_option linter.unusedSimpArgs false

theorem times_math {x lo hi r : Nat} (hx : x ≤ 2) (hlh : lo ≤ hi) (hr : tmsW x (lo : Int) (hi : Int) = r) :
    (x = 0 → (lo = 0 → r = 1) ∧ (lo ≠ 0 → r = 0)) ∧ (x = 1 → min (2 : Int) ((hi : Int) - (lo : Int) + 1) = (r : Int)) ∧ (x = 2 → (hi = 0 → r = 1) ∧ (hi ≠ 0 → r = 2)) := by
  unfold tmsW powW at hr
  rw [if_neg (show ¬ ((lo : Int) + 1 = 0) by omega)] at hr
  by_cases h0 : (lo : Int) = 0
  · rw [if_pos h0] at hr
    by_cases h1 : (lo : Int) < (hi : Int)
    · rw [if_pos h1] at hr
      refine ⟨fun h => ⟨fun _ => ?_, fun _ => ?_⟩, fun h => ?_, fun h => ⟨fun _ => ?_, fun _ => ?_⟩⟩ <;> omega
    · rw [if_neg h1] at hr
      refine ⟨fun h => ⟨fun _ => ?_, fun _ => ?_⟩, fun h => ?_, fun h => ⟨fun _ => ?_, fun _ => ?_⟩⟩ <;> omega
  · rw [if_neg h0] at hr
    by_cases h1 : (lo : Int) < (hi : Int)
    · rw [if_pos h1] at hr
      refine ⟨fun h => ⟨fun _ => ?_, fun _ => ?_⟩, fun h => ?_, fun h => ⟨fun _ => ?_, fun _ => ?_⟩⟩ <;> omega
    · rw [if_neg h1] at hr
      refine ⟨fun h => ⟨fun _ => ?_, fun _ => ?_⟩, fun h => ?_, fun h => ⟨fun _ => ?_, fun _ => ?_⟩⟩ <;> omega
set_option maxHeartbeats 64000000 in
set_option maxRecDepth 1000000 in
theorem nulltimes_walk (l : List Nd) (A : Option Addr) (c lo hi : Nat) (hlo : lo < 256) (hhi : hi < 256) (hc1 : l.length ≤ c) (hl : l.length ≤ 9223372036854775807) (htx : Txt l) (w : World) (hrow : NRow w A l) (hT : U8T w) :
    Calls Tryd.prog 6 #[.agg #[.slice A l.length c], .int .u8 (lo : Int), .int .u8 (hi : Int)] w (Ans w (.bool true)) := by
  have HS0 := Lib.hid (NuS.new c hrow hT)
  have HTX := Lib.hid htx
  clear hrow htx hT
  go_enter Tryd.func6, Tryd.ntmps6
  go_upto_region 1 with (fail)
  generalize w.alloc (.cells #[.slice A l.length c] 24) = w1 at *
  go_wp2_with fail
  refine (awake8_any _ HS0.out.t).mono ?_; rintro e w2 ⟨rfl, hb⟩
  have HS2 := Lib.hid (HS0.out.later hb)
  clear hb HS0
  have e0 := HS2.out.s.box.cell 0
  simp at e0
  have HF := Lib.hid (few_any l A c hl HTX.out _ HS2.out.s.row)
  cases hf : fewB l with
  | false =>
    rw [hf] at HF
    clear hf
    go_wp2_with fail
    refine HF.out.mono ?_; rintro e w3 ⟨rfl, hb⟩
    have HS3 := Lib.hid (HS2.out.later hb)
    clear hb e0 HF HS2
    go_wp2_with fail
    refine (awake8_any _ HS3.out.t).mono ?_; rintro e WN ⟨rfl, hb⟩
    have HSY := Lib.hid (HS3.out.later hb)
    clear hb
    go_wp2
    go_ret
    exact ⟨rfl, HSY.out.s.bel⟩
  | true =>
    rw [hf] at HF
    have L1 := Lib.hid (few_txt hf).1
    clear hf
    go_wp2_with fail
    refine HF.out.mono ?_; rintro e w3 ⟨rfl, hb⟩
    have HS3 := Lib.hid (HS2.out.later hb)
    clear hb e0 HF HS2
    have e0 := HS3.out.s.box.cell 0
    simp at e0
    have HF := Lib.hid (refform_any l A c (by have := L1.out; omega) HTX.out _ HS3.out.s.row)
    cases hf : formB l with
    | false =>
      rw [hf] at HF
      clear hf
      go_wp2_with fail
      refine HF.out.mono ?_; rintro e w4 ⟨rfl, hb⟩
      have HS4 := Lib.hid (HS3.out.later hb)
      clear hb e0 HF HS3
      go_wp2_with fail
      refine (awake8_any _ HS4.out.t).mono ?_; rintro e WN ⟨rfl, hb⟩
      have HSY := Lib.hid (HS4.out.later hb)
      clear hb
      go_wp2
      go_ret
      exact ⟨rfl, HSY.out.s.bel⟩
    | true =>
      rw [hf] at HF
      have hfo := (formB_iff l).1 hf
      clear hf
      have hlen := L1.out
      have HSM : Hid (Sm l) := ⟨hfo, by omega, HTX.out⟩
      have hpos := hfo.1
      by_cases hlh : lo ≤ hi
      · have hgt : ¬ (lo : Int) > (hi : Int) := by omega
        go_wp2_with fail
        refine HF.out.mono ?_; rintro e w4 ⟨rfl, hb⟩
        have HS4 := Lib.hid (HS3.out.later hb)
        clear hb e0 HF HS3
        have hF7 : Form (wrapL 7 (lo : Int) (hi : Int) l) := wrap_form7 hfo (by omega) (by omega) (by omega)
        have HSW : Hid (Sm (wrapL 7 (lo : Int) (hi : Int) l)) := HSM.out.rep (by omega) (by omega) (by omega) (by omega)
        have hx2 := wyN_le l (l.length - 1)
        have hwr := (wyN_wrap (l := l) (kind := 7) (lo := (lo : Int)) (hi := (hi : Int))).2 hpos (by omega)
        have ho7 : ∀ x, oneW 7 (lo : Int) (hi : Int) x = tmsW x (lo : Int) (hi : Int) := fun x => by unfold oneW; rw [if_neg (by decide), if_pos rfl]
        rw [ho7] at hwr
        have C1 : Hid (∀ w', NuS w A l c w' → Calls Tryd.prog 14 #[.agg #[.slice A l.length c], .int .i64 ((l.length : Int) - 1)] w' (Ans w' (.int .i64 ((wyN l (l.length - 1) : Nat) : Int)))) := fun w' h => by
          have q := (h.isD hc1).nways HSM.out (i := l.length - 1) (by omega) rfl
          rwa [show ((l.length - 1 : Nat) : Int) = (l.length : Int) - 1 by omega] at q
        have C2 : Hid (∀ w', NuS w A l c w' → Calls Tryd.prog 18 #[.int .i64 7, .int .i64 (lo : Int), .int .i64 (hi : Int), .agg #[.slice A l.length c]] w' (DPost w' (wrapL 7 (lo : Int) (hi : Int) l))) := fun w' h => (h.isD hc1).rwrap HSM.out 7 _ _
        obtain ⟨r, hr⟩ : ∃ r, tmsW (wyN l (l.length - 1)) (lo : Int) (hi : Int) = r := ⟨_, rfl⟩
        rw [hr] at hwr
        have C3 : Hid (∀ w' u, IsD (wrapL 7 (lo : Int) (hi : Int) l) u w' → Calls Tryd.prog 14 #[u, .int .i64 (l.length : Int)] w' (Ans w' (.int .i64 (r : Int)))) := fun w' u h => h.nways HSW.out (by rw [wrapL_length]; omega) hwr
        have HM := Lib.hid (times_math hx2 hlh hr)
        have hxc : wyN l (l.length - 1) = 0 ∨ wyN l (l.length - 1) = 1 ∨ wyN l (l.length - 1) = 2 := by omega
        generalize wyN l (l.length - 1) = x at *
        clear hr hwr ho7 hF7 hx2 hfo
        have e0 := HS4.out.s.box.cell 0
        simp at e0
        have hmin : -9223372036854775808 ≤ (l.length : Int) - 1 := by omega
        go_wp2_with fail
        refine (C1.out _ HS4.out).mono ?_; rintro e w5 ⟨rfl, hb⟩
        have HS5 := Lib.hid (HS4.out.later hb)
        clear hb e0 HS4 C1
        have e0 := HS5.out.s.box.cell 0
        simp at e0
        go_upto_region 4 with (fail)
        clear e0
        refine wp_region_stable (S := (NuS w A l c)) (hSt := fun _ _ h hb => h.later hb) (plan := [[(1, none)], [(34, some 0)], [(2, none)], [(36, some 2)], [(3, none)], [(35, some 1), (37, some 3), (38, some 4)], [(3, none)], [(40, some 6)], [(41, some 7)], [(39, some 5), (42, some 8)], [(43, some 9)]]) (by kernel_rfl) (by kernel_rfl) (by kernel_rfl) ?hS ?_
        rotate_left
        iterate 5 first
          | (refine chain_skip (by rfl) (by rfl) ?_)
          | (apply chain_want (by rfl)
             · intro act wx hS hr
               simp at hr
               have e0 := hS.s.box.cell 0
               simp at e0
               go_simp
               (try go_ints)
               first
                 | (obtain ⟨⟨u, hr1, hu⟩, -⟩ := hr; simp only [hr1, Option.getD_some]; refine (C3.out _ _ hu).mono ?_; rintro e w' ⟨rfl, hb⟩; exact Done.mk hb)
                 | exact Done.same
            )
        (refine chain_rel (IsD (wrapL 7 (lo : Int) (hi : Int) l)) (IsD.later _) (by rfl) ?_ ?_
         · intro act wx hS hr
           simp at hr
           have e0 := hS.s.box.cell 0
           simp at e0
           all_goals go_simp
           ((with_reducible refine (C2.out _ hS).mono ?_); intro e w' hp; obtain ⟨s, rfl, ho, hb⟩ := hp; exact Done.rel hb ho.isD)
        )
        iterate 5 first
          | (refine chain_skip (by rfl) (by rfl) ?_)
          | (apply chain_want (by rfl)
             · intro act wx hS hr
               simp at hr
               have e0 := hS.s.box.cell 0
               simp at e0
               go_simp
               (try go_ints)
               first
                 | (obtain ⟨⟨u, hr1, hu⟩, -⟩ := hr; simp only [hr1, Option.getD_some]; refine (C3.out _ _ hu).mono ?_; rintro e w' ⟨rfl, hb⟩; exact Done.mk hb)
                 | exact Done.same
            )
        show ∀ w', _ → _
        intro w6 hw6
        simp [Act.put]
        case hS => exact HS5.out
        have HS6 := Lib.hid hw6
        clear hw6 HS5 C2 C3
        intros
        rcases hxc with rfl | rfl | rfl
        · have hm := HM.out.1 rfl
          by_cases h0 : lo = 0
          · obtain rfl := hm.1 h0
            subst h0
            clear HM hm
            go_wp2
            go_ret
            exact ⟨rfl, HS6.out.s.bel⟩
          · obtain rfl := hm.2 h0
            have hz : ((lo : Int) == 0) = false := by rw [beq_eq_false_iff_ne]; omega
            clear HM hm
            go_wp2
            go_ret
            exact ⟨rfl, HS6.out.s.bel⟩
        · have hm := HM.out.2.1 rfl
          have hrr : ((r : Int) == (r : Int)) = true := by simp
          clear HM
          go_wp2
          go_ret
          exact ⟨rfl, HS6.out.s.bel⟩
        · have hm := HM.out.2.2 rfl
          by_cases h0 : hi = 0
          · obtain rfl := hm.1 h0
            subst h0
            clear HM hm
            go_wp2
            go_ret
            exact ⟨rfl, HS6.out.s.bel⟩
          · obtain rfl := hm.2 h0
            have hz : ((hi : Int) == 0) = false := by rw [beq_eq_false_iff_ne]; omega
            have hg : (hi : Int) > 0 := by omega
            have hg3 : 0 < hi := by omega
            clear HM hm
            go_wp2
            go_ret
            exact ⟨rfl, HS6.out.s.bel⟩
      · have hgt : (lo : Int) > (hi : Int) := by omega
        go_wp2_with fail
        refine HF.out.mono ?_; rintro e w4 ⟨rfl, hb⟩
        have HS4 := Lib.hid (HS3.out.later hb)
        clear hb e0 HF HS3
        go_wp2_with fail
        refine (awake8_any _ HS4.out.t).mono ?_; rintro e WN ⟨rfl, hb⟩
        have HSY := Lib.hid (HS4.out.later hb)
        clear hb
        go_wp2
        go_ret
        exact ⟨rfl, HSY.out.s.bel⟩
end Go.Proofs.YtpbadglfegcdjaaDoor
