/- The anchor of layer 6. -/
import Derived.Test.YtpbadglfegcdjaaGreatDoorM25
import Derived.Test.YtpbadglfegcdjaaGreatDoorM08
import Derived.Test.YtpbadglfegcdjaaGreatDoorM07
import Derived.Test.YtpbadglfegcdjaaGreatDoorM03
import Derived.Test.YtpbadglfegcdjaaGreatDoorProg
import Derived.WalkKit
import Derived.Carry
import Derived.Below
import Derived.Laws.EntriesVeiled
namespace Go.Proofs.YtpbadglfegcdjaaGreatDoor
open Go Go.RowKit
set_option linter.unusedVariables false
set_option linter.unusedSimpArgs false
set_option maxRecDepth 100000

def apC : BitVec 256 := rowB 0 255
def apn : Nd := ⟨2, 0, 0, 0, 0, apC, []⟩
def apD : List Nd := [apn]
def apO : List Nd := pairL 5 apD apD
def apS : List Nd := wrapL 6 0 0 apO
def apW : List Nd := wrapL 8 0 0 apS
theorem apD_sm : Sd apD := by
  refine ⟨⟨by simp [apD], fun i hi => ?_, ?_⟩, by simp [apD], fun m hm => ?_⟩
  · obtain rfl : i = 0 := by simpa [apD] using hi
    exact ⟨rfl, .inr (.inl rfl)⟩
  · show firstP apD 0 = 0
    have := firstP_le apD 0; omega
  · rw [List.mem_singleton.1 hm]; simp [apn]
theorem apO_sm : Sd apO := apD_sm.pair apD_sm (by simp [apD]) (.inr rfl)
theorem apO_len : apO.length = 3 := by simp [apO, pairL, apD]
theorem apS_sm : Sd apS := apO_sm.wrap (by rw [apO_len]; omega) (.inl rfl)
theorem apS_len : apS.length = 4 := by unfold apS; rw [wrapL_length', apO_len]
theorem apW_sm : Sd apW := apS_sm.wrap (by rw [apS_len]; omega) (.inr (.inl rfl))
theorem apW_len : apW.length = 5 := by unfold apW; rw [wrapL_length', apS_len]
theorem apD_at : apD = [apn] := rfl
theorem apS_eq : apS = [apn, apn, ⟨5, 0, 1, 0, 0, 0#256, []⟩, ⟨6, 2, 0, 0, 0, 0#256, []⟩] := rfl
theorem apW_eq : apW = [apn, apn, ⟨5, 0, 1, 0, 0, 0#256, []⟩, ⟨6, 2, 0, 0, 0, 0#256, []⟩, ⟨8, 3, 0, 0, 0, 0#256, []⟩] := rfl
theorem pr_of {l : List Nd} (h : Sd l) (ht : ∀ n ∈ l, n.text.length ≤ 2000) : PrOk l := ⟨h.form, h.len, ht⟩
theorem apD_pr : PrOk apD := pr_of apD_sm (by rw [apD_at]; intro n hn; simp at hn; subst hn; simp [apn])
theorem apS_pr : PrOk apS := pr_of apS_sm (by rw [apS_eq]; intro n hn; simp at hn; rcases hn with rfl | rfl | rfl <;> simp [apn])
theorem apW_pr : PrOk apW := pr_of apW_sm (by rw [apW_eq]; intro n hn; simp at hn; rcases hn with rfl | rfl | rfl | rfl <;> simp [apn])
theorem apC_txt : clsT apC = [46] := by unfold clsT apC; rw [if_pos rfl]
theorem apS_text : textN apS = [40, 46, 124, 46, 41, 42] := by
  have h : ∀ (cT : BitVec 256 → List UInt8) (bT : Int → Int → List UInt8), sgsF cT bT apS 4 3 0 = [[40], cT apC, [124], cT apC, [41], [42]] := fun cT bT => rfl
  show (sgsF clsT bndT apS 4 3 0).flatten = _
  rw [h, apC_txt]; rfl
theorem apW_text : textN apW = [98, 40, 40, 46, 124, 46, 41, 42, 41] := by
  have h : ∀ (cT : BitVec 256 → List UInt8) (bT : Int → Int → List UInt8), sgsF cT bT apW 5 4 0 = [[98], [40], [40], cT apC, [124], cT apC, [41], [42], [41]] := fun cT bT => rfl
  show (sgsF clsT bndT apW 5 4 0).flatten = _
  rw [h, apC_txt]; rfl
theorem apD_deep : deepN apD = 0 := rfl
theorem apS_deep : deepN apS = 1 := rfl
theorem apW_deep : deepN apW = 2 := rfl
theorem ap_ab : clsT (rowB 97 98) = [60, 54, 49, 45, 54, 50, 62] := by decide +kernel
theorem ap_0 : clsT 0#256 = [60, 62] := by decide +kernel
theorem ap_5 : clsT 5#256 = [60, 48, 48, 44, 48, 50, 62] := by decide +kernel
theorem wd5 : wd 5#256 0 = 5 ∧ wd 5#256 1 = 0 ∧ wd 5#256 2 = 0 ∧ wd 5#256 3 = 0 := by decide +kernel
theorem wd0 : wd 0#256 0 = 0 ∧ wd 0#256 1 = 0 ∧ wd 0#256 2 = 0 ∧ wd 0#256 3 = 0 := by decide +kernel
/-- A description in a box. -/
structure Ds (b : Nat) (A : Option Addr) (l : List Nd) (n c : Nat) (w : World) : Prop where
  cap : l.length ≤ c
  len : l.length = n
  box : Blk w b #[.slice A n c] 24
  row : NRow w A l
theorem Ds.later {b : Nat} {A : Option Addr} {l : List Nd} {n c : Nat} {w w' : World} (h : Ds b A l n c w) (hb : Below w.heap.size w w') : Ds b A l n c w' := ⟨h.cap, h.len, h.box.later hb, h.row.later hb⟩
theorem Ds.isD {b : Nat} {A : Option Addr} {l : List Nd} {n c : Nat} {w : World} (h : Ds b A l n c w) : IsD l (.agg #[.slice A n c]) w := ⟨A, c, h.cap, by rw [h.len], h.row⟩
theorem Ds.load {b : Nat} {A : Option Addr} {l : List Nd} {n c : Nat} {w : World} (h : Ds b A l n c w) : w.cell? ⟨b, 0, none⟩ = some (.slice A n c) := by
  have := h.box.cell 0; simpa using this
theorem ds_of {l : List Nd} {w : World} {A : Option Addr} {n c : Nat} (hr : NRow w A l) (hl : l.length = n) (hc : n ≤ c) : Ds w.heap.size A l n c (w.alloc (.cells #[.slice A n c] 24)) :=
  ⟨by omega, hl, Blk.new w _ _, hr.later ((Below.refl w.heap.size w).alloc (Nat.le_refl _) _)⟩
theorem IsD.ptext {l : List Nd} {v : Value} {w : World} (h : IsD l v w) (hp : PrOk l) (hT : T10 w) : Calls Tryz.prog 9 #[v] w (Ans w (.string (bs (textN l)))) := by
  obtain ⟨A, c, hc, rfl, hr⟩ := h
  exact ptext_any l hp A c w hr hT
theorem IsD.pdeep {l : List Nd} {v : Value} {w : World} (h : IsD l v w) (hp : PrOk l) (hT : T10 w) {x : Nat} (hx : deepN l = x) : Calls Tryz.prog 11 #[v] w (Ans w (.int .i64 (x : Int))) := by
  obtain ⟨A, c, hc, rfl, hr⟩ := h
  subst hx
  exact pdeep_any l hp A c w hr hT
structure ApS (w0 : World) (bd : Nat) (Ad : Option Addr) (bs_ : Nat) (As : Option Addr) (cs bw : Nat) (Aw : Option Addr) (cw : Nat) (w : World) : Prop where
  bel : Below w0.heap.size w0 w
  d : Ds bd Ad apD 1 1 w
  s : Ds bs_ As apS 4 cs w
  t : T10 w
  w : Ds bw Aw apW 5 cw w
theorem ApS.later {w0 w w' : World} {bd : Nat} {Ad : Option Addr} {bs_ : Nat} {As : Option Addr} {cs bw : Nat} {Aw : Option Addr} {cw : Nat} (h : ApS w0 bd Ad bs_ As cs bw Aw cw w) (hb : Below w.heap.size w w') : ApS w0 bd Ad bs_ As cs bw Aw cw w' := ⟨h.bel.trans (hb.mono h.bel.size), h.d.later hb, h.s.later hb, h.t.later hb, h.w.later hb⟩
theorem nrow_one' {n : Nd} {b : Nat} {w : World} (h : Blk w b (ndC n) 43) : NRow w (some ⟨b, 0, none⟩) [n] := fun i hi => by
  obtain rfl : i = 0 := by simpa using hi
  exact ⟨b, 0, rfl, h.lt, fun j _ => by rw [h.cell]; simp⟩
set_option maxHeartbeats 16000000 in
theorem awake6_any (w : World) (hT : T10 w) : Calls Tryz.prog 5 #[] w (Ans w (.bool true)) := by
  have HT := Lib.hid hT
  clear hT
  go_enter Tryz.func5, Tryz.ntmps5
  go_wp2_with fail
  refine (refrow_any 0 255 (by decide) (by decide) _).mono ?_; rintro e w1 ⟨rfl, hb⟩
  have HB1 := Lib.hid hb
  have HT1 := Lib.hid (HT.out.later hb)
  clear hb
  unfold cls
  go_upto_region 2 with (fail)
  have hb2 : Below w1.heap.size w1 ((w1.alloc (.cells #[.int .i64 2, .int .i64 0, .int .i64 0, .int .i64 0, .int .i64 0, .int .u64 (wd (rowB 0 255) 0), .int .u64 (wd (rowB 0 255) 1), .int .u64 (wd (rowB 0 255) 2), .int .u64 (wd (rowB 0 255) 3), .string ⟨#[]⟩] 43)).alloc (.cells #[.slice (some ⟨w1.heap.size, 0, none⟩) 1 1] 24)) := ((Below.refl w1.heap.size w1).alloc (Nat.le_refl _) _).alloc (by simp) _
  have hk2 : Blk ((w1.alloc (.cells #[.int .i64 2, .int .i64 0, .int .i64 0, .int .i64 0, .int .i64 0, .int .u64 (wd (rowB 0 255) 0), .int .u64 (wd (rowB 0 255) 1), .int .u64 (wd (rowB 0 255) 2), .int .u64 (wd (rowB 0 255) 3), .string ⟨#[]⟩] 43)).alloc (.cells #[.slice (some ⟨w1.heap.size, 0, none⟩) 1 1] 24)) w1.heap.size (ndC apn) 43 := (Blk.new w1 #[.int .i64 2, .int .i64 0, .int .i64 0, .int .i64 0, .int .i64 0, .int .u64 (wd (rowB 0 255) 0), .int .u64 (wd (rowB 0 255) 1), .int .u64 (wd (rowB 0 255) 2), .int .u64 (wd (rowB 0 255) 3), .string ⟨#[]⟩] 43).alloc _
  have HD2 : Hid (Ds (w1.heap.size + 1) (some ⟨w1.heap.size, 0, none⟩) apD 1 1 ((w1.alloc (.cells #[.int .i64 2, .int .i64 0, .int .i64 0, .int .i64 0, .int .i64 0, .int .u64 (wd (rowB 0 255) 0), .int .u64 (wd (rowB 0 255) 1), .int .u64 (wd (rowB 0 255) 2), .int .u64 (wd (rowB 0 255) 3), .string ⟨#[]⟩] 43)).alloc (.cells #[.slice (some ⟨w1.heap.size, 0, none⟩) 1 1] 24))) := ⟨by simp [apD], rfl, Blk.new' (by simp) _ _, nrow_one' hk2⟩
  have HB2 := Lib.hid (HB1.out.trans (hb2.mono HB1.out.size))
  have HT2 := Lib.hid (HT1.out.later hb2)
  clear hb2 hk2 HB1 HT1 HT
  generalize ((w1.alloc (.cells #[.int .i64 2, .int .i64 0, .int .i64 0, .int .i64 0, .int .i64 0, .int .u64 (wd (rowB 0 255) 0), .int .u64 (wd (rowB 0 255) 1), .int .u64 (wd (rowB 0 255) 2), .int .u64 (wd (rowB 0 255) 3), .string ⟨#[]⟩] 43)).alloc (.cells #[.slice (some ⟨w1.heap.size, 0, none⟩) 1 1] 24)) = w2 at *
  generalize w1.heap.size + 1 = bd at *
  generalize (some ⟨w1.heap.size, 0, none⟩ : Option Addr) = Ad at *
  generalize wd (rowB 0 255) 0 = y0 at *
  generalize wd (rowB 0 255) 1 = y1 at *
  generalize wd (rowB 0 255) 2 = y2 at *
  generalize wd (rowB 0 255) 3 = y3 at *
  have e0 := HD2.out.load
  go_wp2_with fail
  refine (HD2.out.isD.rpair' HD2.out.isD apD_sm apD_sm 5).mono ?_; intro e w3 hp; obtain ⟨s3, rfl, ho, hb⟩ := hp
  obtain ⟨A3, c3, hc, hv, hr⟩ := ho.isD
  have el : (pairL 5 apD apD).length = 3 := apO_len
  rw [el] at hc hv
  obtain rfl : s3 = .slice A3 3 c3 := by simpa using hv
  have hbb := hb.trans ((Below.refl w3.heap.size w3).alloc (Nat.le_refl _) (.cells #[.slice A3 3 c3] 24) |>.mono hb.size)
  have HO3 : Hid (Ds w3.heap.size A3 apO 3 c3 (w3.alloc (.cells #[.slice A3 3 c3] 24))) := ds_of hr el hc
  have HD3 := Lib.hid (HD2.out.later hbb)
  have HB3 := Lib.hid (HB2.out.trans (hbb.mono HB2.out.size))
  have HT3 := Lib.hid (HT2.out.later hbb)
  clear hb ho hr hv hc el hbb e0 HD2 HB2 HT2
  go_upto_region 3 with (fail)
  generalize w3.alloc (.cells #[.slice A3 3 c3] 24) = w4 at *
  generalize w3.heap.size = bo at *
  have e0 := HO3.out.load
  go_wp2_with fail
  refine (HO3.out.isD.rwrap' apO_sm 6 0 0).mono ?_; intro e w5 hp; obtain ⟨s5, rfl, ho, hb⟩ := hp
  obtain ⟨A5, c5, hc, hv, hr⟩ := ho.isD
  have el : (wrapL 6 0 0 apO).length = 4 := apS_len
  rw [el] at hc hv
  obtain rfl : s5 = .slice A5 4 c5 := by simpa using hv
  have hbb := hb.trans ((Below.refl w5.heap.size w5).alloc (Nat.le_refl _) (.cells #[.slice A5 4 c5] 24) |>.mono hb.size)
  have HS5 : Hid (Ds w5.heap.size A5 apS 4 c5 (w5.alloc (.cells #[.slice A5 4 c5] 24))) := ds_of hr el hc
  have HD5 := Lib.hid (HD3.out.later hbb)
  have HB5 := Lib.hid (HB3.out.trans (hbb.mono HB3.out.size))
  have HT5 := Lib.hid (HT3.out.later hbb)
  clear hb ho hr hv hc el hbb e0 HD3 HB3 HT3 HO3
  go_upto_region 4 with (fail)
  generalize w5.alloc (.cells #[.slice A5 4 c5] 24) = w6 at *
  generalize w5.heap.size = bs5 at *
  have e0 := HS5.out.load
  go_wp2_with fail
  refine (HS5.out.isD.rwrap' apS_sm 8 0 0).mono ?_; intro e w7 hp; obtain ⟨s7, rfl, ho, hb⟩ := hp
  obtain ⟨A7, c7, hc, hv, hr⟩ := ho.isD
  have el : (wrapL 8 0 0 apS).length = 5 := apW_len
  rw [el] at hc hv
  obtain rfl : s7 = .slice A7 5 c7 := by simpa using hv
  have hbb := hb.trans ((Below.refl w7.heap.size w7).alloc (Nat.le_refl _) (.cells #[.slice A7 5 c7] 24) |>.mono hb.size)
  have HQ0 : Hid (ApS w bd Ad bs5 A5 c5 w7.heap.size A7 c7 (w7.alloc (.cells #[.slice A7 5 c7] 24))) := ⟨HB5.out.trans (hbb.mono HB5.out.size), HD5.out.later hbb, HS5.out.later hbb, HT5.out.later hbb, ds_of hr el hc⟩
  clear hb ho hr hv hc el hbb e0 HD5 HB5 HT5 HS5
  go_upto_region 5 with (fail)
  generalize w7.alloc (.cells #[.slice A7 5 c7] 24) = w8 at *
  generalize w7.heap.size = bw at *
  have e0 := HQ0.out.d.load
  have e1 := HQ0.out.s.load
  have e2 := HQ0.out.w.load
  have CO := Lib.hid (HQ0.out.s.isD.ptext apS_pr HQ0.out.t)
  rw [apS_text] at CO
  go_wp2_with fail
  refine (CO.out).mono ?_; rintro e x1 ⟨rfl, hb⟩
  have HQ1 := Lib.hid (HQ0.out.later hb)
  clear hb CO e0 e1 e2 HQ0
  have hq1 : ((bs [40, 46, 124, 46, 41, 42]).toList == [40, 46, 124, 46, 41, 42]) = true := by rw [bs_toList]; rfl
  have e0 := HQ1.out.d.load
  have e1 := HQ1.out.s.load
  have e2 := HQ1.out.w.load
  have CO := Lib.hid (HQ1.out.s.isD.pdeep apS_pr HQ1.out.t apS_deep)
  go_wp2_with fail
  refine (CO.out).mono ?_; rintro e x2 ⟨rfl, hb⟩
  have HQ2 := Lib.hid (HQ1.out.later hb)
  clear hb CO e0 e1 e2 HQ1
  have e0 := HQ2.out.d.load
  have e1 := HQ2.out.s.load
  have e2 := HQ2.out.w.load
  have CO := Lib.hid (HQ2.out.w.isD.ptext apW_pr HQ2.out.t)
  rw [apW_text] at CO
  go_wp2_with fail
  refine (CO.out).mono ?_; rintro e x3 ⟨rfl, hb⟩
  have HQ3 := Lib.hid (HQ2.out.later hb)
  clear hb CO e0 e1 e2 HQ2
  have hq3 : ((bs [98, 40, 40, 46, 124, 46, 41, 42, 41]).toList == [98, 40, 40, 46, 124, 46, 41, 42, 41]) = true := by rw [bs_toList]; rfl
  have e0 := HQ3.out.d.load
  have e1 := HQ3.out.s.load
  have e2 := HQ3.out.w.load
  have CO := Lib.hid (HQ3.out.w.isD.pdeep apW_pr HQ3.out.t apW_deep)
  go_wp2_with fail
  refine (CO.out).mono ?_; rintro e x4 ⟨rfl, hb⟩
  have HQ4 := Lib.hid (HQ3.out.later hb)
  clear hb CO e0 e1 e2 HQ3
  have e0 := HQ4.out.d.load
  have e1 := HQ4.out.s.load
  have e2 := HQ4.out.w.load
  go_wp2_with fail
  refine (refrow_any 97 98 (by decide) (by decide) _).mono ?_; rintro e x5 ⟨rfl, hb⟩
  have HQ5 := Lib.hid (HQ4.out.later hb)
  clear hb e0 e1 e2 HQ4
  have e0 := HQ5.out.d.load
  have e1 := HQ5.out.s.load
  have e2 := HQ5.out.w.load
  have CO := Lib.hid (class_any6 (rowB 97 98) x5)
  rw [ap_ab] at CO
  unfold cls at CO ⊢
  go_wp2_with fail
  refine (CO.out).mono ?_; rintro e x6 ⟨rfl, hb⟩
  have HQ6 := Lib.hid (HQ5.out.later hb)
  clear hb CO e0 e1 e2 HQ5
  generalize wd (rowB 97 98) 0 = z0 at *
  generalize wd (rowB 97 98) 1 = z1 at *
  generalize wd (rowB 97 98) 2 = z2 at *
  generalize wd (rowB 97 98) 3 = z3 at *
  have hq6 : ((bs [60, 54, 49, 45, 54, 50, 62]).toList == [60, 54, 49, 45, 54, 50, 62]) = true := by rw [bs_toList]; rfl
  have e0 := HQ6.out.d.load
  have e1 := HQ6.out.s.load
  have e2 := HQ6.out.w.load
  have CO := Lib.hid (class_any6 0#256 x6)
  rw [ap_0] at CO
  unfold cls at CO
  rw [wd0.1, wd0.2.1, wd0.2.2.1, wd0.2.2.2] at CO
  go_wp2_with fail
  refine (CO.out).mono ?_; rintro e x7 ⟨rfl, hb⟩
  have HQ7 := Lib.hid (HQ6.out.later hb)
  clear hb CO e0 e1 e2 HQ6
  have hq7 : ((bs [60, 62]).toList == [60, 62]) = true := by rw [bs_toList]; rfl
  have e0 := HQ7.out.d.load
  have e1 := HQ7.out.s.load
  have e2 := HQ7.out.w.load
  have CO := Lib.hid (class_any6 5#256 x7)
  rw [ap_5] at CO
  unfold cls at CO
  rw [wd5.1, wd5.2.1, wd5.2.2.1, wd5.2.2.2] at CO
  go_wp2_with fail
  refine (CO.out).mono ?_; rintro e x8 ⟨rfl, hb⟩
  have HQ8 := Lib.hid (HQ7.out.later hb)
  clear hb CO e0 e1 e2 HQ7
  have hq8 : ((bs [60, 48, 48, 44, 48, 50, 62]).toList == [60, 48, 48, 44, 48, 50, 62]) = true := by rw [bs_toList]; rfl
  have e0 := HQ8.out.d.load
  have e1 := HQ8.out.s.load
  have e2 := HQ8.out.w.load
  have CO := Lib.hid (HQ8.out.d.isD.pdeep apD_pr HQ8.out.t apD_deep)
  go_wp2_with fail
  refine (CO.out).mono ?_; rintro e x9 ⟨rfl, hb⟩
  have HQ9 := Lib.hid (HQ8.out.later hb)
  clear hb CO e0 e1 e2 HQ8
  go_wp2
  go_ret
  exact ⟨rfl, HQ9.out.bel⟩
end Go.Proofs.YtpbadglfegcdjaaGreatDoor
/- A map whose keys are runes: what a look-up finds, what a new key leaves. -/
namespace Go.Proofs.YtpbadglfegcdjaaGreatDoor
open Go Go.RowKit
set_option linter.unusedVariables false
set_option linter.unusedSimpArgs false

def mapEs : List (Int × Value) → Nat → List MapEntry
  | [], _ => []
  | p :: l, i => { key := .int .i32 p.1, val := p.2, born := i } :: mapEs l (i + 1)
theorem mapEs_append : ∀ (l : List (Int × Value)) (k : Int) (v : Value) (i : Nat), mapEs (l ++ [(k, v)]) i = mapEs l i ++ [{ key := .int .i32 k, val := v, born := i + l.length }]
  | [], k, v, i => rfl
  | p :: l, k, v, i => by
    show _ :: mapEs (l ++ [(k, v)]) (i + 1) = _
    rw [mapEs_append l k v (i + 1)]
    simp [mapEs]; omega
/-- What a map holds, in the order in which it was put in. -/
def IsMap (w : World) (m : Nat) (l : List (Int × Value)) : Prop := w.heap[m]? = some (.map (mapEs l 0).toArray l.length)
theorem IsMap.lt {w : World} {m : Nat} {l : List (Int × Value)} (h : IsMap w m l) : m < w.heap.size := (Array.getElem?_eq_some_iff.1 h).1
theorem IsMap.later {w w' : World} {m : Nat} {l : List (Int × Value)} (h : IsMap w m l) (hb : Below w.heap.size w w') : IsMap w' m l := (hb.block m h.lt).trans h
/-- The world with a map's block turned. -/
def putMap (w : World) (m : Nat) (l : List (Int × Value)) : World := { w with heap := w.heap.setIfInBounds m (.map (mapEs l 0).toArray l.length) }
theorem putMap_is {w : World} {m : Nat} (h : m < w.heap.size) (l' : List (Int × Value)) : IsMap (putMap w m l') m l' := by
  unfold IsMap putMap; simp [h]
theorem putMap_other {w : World} {m b : Nat} (hb : b ≠ m) (l : List (Int × Value)) : (putMap w m l).heap[b]? = w.heap[b]? := by
  unfold putMap; simp [Ne.symm hb]
theorem putMap_size (w : World) (m : Nat) (l : List (Int × Value)) : (putMap w m l).heap.size = w.heap.size := by simp [putMap]
theorem putMap_below {B : Nat} {a w : World} {m : Nat} (h : Below B a w) (hm : B ≤ m) (l : List (Int × Value)) : Below B a (putMap w m l) :=
  h.trans ⟨rfl, rfl, rfl, by rw [putMap_size]; exact Nat.le_refl _, fun i hi => putMap_other (by omega) l⟩
/-- What a look-up finds. -/
def findE : List (Int × Value) → Int → Nat → Option (Nat × Value)
  | [], _, _ => none
  | p :: l, k, i => if p.1 = k then some (i, p.2) else findE l k (i + 1)
theorem findNow_mapEs (k : Int) : ∀ (l : List (Int × Value)) (i : Nat), Instr.findNow (.int .i32) (.int .i32 k) (mapEs l i) i = some (findE l k i)
  | [], i => rfl
  | p :: l, i => by
    unfold mapEs Instr.findNow findE
    simp only [Instr.sameNow, if_true]
    by_cases h : p.1 = k
    · have : (k == p.1) = true := by rw [beq_iff_eq]; exact h.symm
      rw [this, if_pos h]
    · have : (k == p.1) = false := by rw [beq_eq_false_iff_ne]; exact fun e => h e.symm
      rw [this, if_neg h]
      exact findNow_mapEs k l (i + 1)
theorem keys_free {e : Bool} {k : Int} (w : World) : (Instr.checkKey e 10000 21 (.int .i32 k)).run Tryz.prog w = .ok () w := by
  rw [show (10000 : Nat) = 9999 + 1 from rfl]
  unfold Instr.checkKey
  simp [run_underlying Tryz.underlying21, Result.andThen]
theorem run_lookup_rune (w : World) (m : Nat) (l : List (Int × Value)) (k : Int) (hm : IsMap w m l) :
    (Instr.lookup 48 (.map (some m)) (.int .i32 k) true).run Tryz.prog w = .ok (match findE l k 0 with | some (_, v) => .tuple #[v, .bool true] | none => .tuple #[.agg #[.string ⟨#[]⟩, .int .i64 0, .nilFunc], .bool false]) w := by
  unfold IsMap at hm
  have hf := findNow_mapEs k l 0
  have hz := Tryz.zeroValue52
  simp only [Instr.lookup, Sem.run_bind, run_underlying Tryz.underlying48, Result.andThen, getObj, Sem.run, hm, keys_free, Instr.findKey, run_underlying Tryz.underlying21, hf]
  rw [show (Sem.run Tryz.prog (pure (mapEs l 0).toArray) w) = .ok (mapEs l 0).toArray w from rfl]
  simp only [hf]
  cases h : findE l k 0 with
  | none => simp [Sem.run_bind, hz, Result.andThen]
  | some p => obtain ⟨i, v⟩ := p; rfl
theorem run_update_rune (w : World) (m : Nat) (l : List (Int × Value)) (k : Int) (v : Value) (hm : IsMap w m l) (hk : findE l k 0 = none) :
    (Instr.mapUpdate 48 (.map (some m)) (.int .i32 k) v).run Tryz.prog w = .ok () (putMap w m (l ++ [(k, v)])) := by
  have hlt := hm.lt
  unfold IsMap at hm
  have hf := findNow_mapEs k l 0
  rw [hk] at hf
  simp only [Instr.mapUpdate, Sem.run_bind, run_underlying Tryz.underlying48, Result.andThen, getObj, Sem.run, hm, keys_free, Instr.findKey, run_underlying Tryz.underlying21, hf]
  simp only [setObj, Sem.run, hm]
  unfold putMap
  rw [mapEs_append]
  simp [Sem.run, hm]
end Go.Proofs.YtpbadglfegcdjaaGreatDoor
/- What a byte begins: the table of beginnings, walked. -/
namespace Go.Proofs.YtpbadglfegcdjaaGreatDoor
open Go Go.RowKit
set_option linter.unusedVariables false

/-- The beginning of a token of one byte, whose token is in such a box. -/
def alV (b : Nat) : Value := .agg #[.string ⟨#[]⟩, .int .i64 0, .func (.func 52) #[] #[.pointer (some ⟨b, 0, none⟩)]]
set_option maxHeartbeats 1000000 in
set_option maxRecDepth 100000 in
theorem alone_any (c0 c1 c2 c3 c4 c5 c6 c7 c8 : Value) (w : World) : Calls Tryz.prog 34 #[.agg #[c0, c1, c2, c3, c4, c5, c6, c7, c8]] w
    (fun e w' => e = .returned (alV w.heap.size) ∧ Blk w' w.heap.size #[c0, c1, c2, c3, c4, c5, c6, c7, c8] 55 ∧ Below w.heap.size w w') := by
  have HB := Lib.hid (Blk.new w #[c0, c1, c2, c3, c4, c5, c6, c7, c8] 55)
  go_enter Tryz.func34, Tryz.ntmps34
  go_wp2
  exact bodyPost_ret (v := alV w.heap.size) (by simp [results, Tryz.results34, go_sem, alV]) rfl ⟨rfl, HB.out.alloc _, by go_grown⟩
set_option maxHeartbeats 1000000 in
set_option maxRecDepth 100000 in
theorem alone1_any (k x0 x1 x2 x3 : Int) (b : Nat) (s : ByteArray) (w : World) (hb : Blk w b #[.int .i64 k, .int .i64 0, .int .u64 x0, .int .u64 x1, .int .u64 x2, .int .u64 x3, .string ⟨#[]⟩, .int .i64 0, .int .i64 0] 55) :
    Calls Tryz.prog 52 #[.string s, .pointer (some ⟨b, 0, none⟩)] w (Ans w (.tuple #[.agg #[.int .i64 k, .int .i64 0, .int .u64 x0, .int .u64 x1, .int .u64 x2, .int .u64 x3, .string ⟨#[]⟩, .int .i64 0, .int .i64 0], .bool true])) := by
  have hlt := hb.lt
  obtain ⟨e0, e1, e2, e3, e4, e5, e6, e7, e8⟩ := nine_cells hb
  have HB := Lib.hid hb
  clear hb
  go_enter Tryz.func52, Tryz.ntmps52
  go_wp2
  exact bodyPost_ret (v := .tuple #[.agg #[.int .i64 k, .int .i64 0, .int .u64 x0, .int .u64 x1, .int .u64 x2, .int .u64 x3, .string ⟨#[]⟩, .int .i64 0, .int .i64 0], .bool true]) (by simp [results, Tryz.results52, go_sem]) rfl ⟨rfl, by go_grown⟩

def begL (b1 b2 b3 b4 b5 b6 b7 : Nat) : List (Int × Value) := [(46, alV b1), (40, alV b2), (41, alV b3), (124, alV b4), (42, alV b5), (98, alV b6), (119, alV b7),
  (60, .agg #[.string ⟨#[62]⟩, .int .i64 2, .func (.func 36) #[] #[]]), (34, .agg #[.string ⟨#[34]⟩, .int .i64 3, .func (.func 37) #[] #[]]), (123, .agg #[.string ⟨#[125]⟩, .int .i64 4, .func (.func 38) #[] #[]])]
def kTok (k : Nat) : Array Value := #[.int .i64 (k : Int), .int .i64 0, .int .u64 0, .int .u64 0, .int .u64 0, .int .u64 0, .string ⟨#[]⟩, .int .i64 0, .int .i64 0]
def dotTok : Array Value := #[.int .i64 1, .int .i64 0, .int .u64 (wd (rowB 0 255) 0), .int .u64 (wd (rowB 0 255) 1), .int .u64 (wd (rowB 0 255) 2), .int .u64 (wd (rowB 0 255) 3), .string ⟨#[]⟩, .int .i64 0, .int .i64 0]
structure BegS (m b1 b2 b3 b4 b5 b6 b7 : Nat) (w : World) : Prop where
  map : IsMap w m (begL b1 b2 b3 b4 b5 b6 b7)
  t1 : Blk w b1 dotTok 55
  t2 : Blk w b2 (kTok 3) 55
  t3 : Blk w b3 (kTok 4) 55
  t4 : Blk w b4 (kTok 5) 55
  t5 : Blk w b5 (kTok 6) 55
  t6 : Blk w b6 (kTok 8) 55
  t7 : Blk w b7 (kTok 9) 55
/-- The table of beginnings. -/
def Known (m : Nat) (w : World) : Prop := ∃ b1 b2 b3 b4 b5 b6 b7, BegS m b1 b2 b3 b4 b5 b6 b7 w
theorem BegS.later {m b1 b2 b3 b4 b5 b6 b7 : Nat} {w w' : World} (h : BegS m b1 b2 b3 b4 b5 b6 b7 w) (hb : Below w.heap.size w w') : BegS m b1 b2 b3 b4 b5 b6 b7 w' :=
  ⟨h.map.later hb, h.t1.later hb, h.t2.later hb, h.t3.later hb, h.t4.later hb, h.t5.later hb, h.t6.later hb, h.t7.later hb⟩
theorem Known.later {m : Nat} {w w' : World} (h : Known m w) (hb : Below w.heap.size w w') : Known m w' := by
  obtain ⟨b1, b2, b3, b4, b5, b6, b7, h⟩ := h
  exact ⟨b1, b2, b3, b4, b5, b6, b7, h.later hb⟩
/-- The map as it grows, and the boxes so far. -/
structure Grw (w0 : World) (m : Nat) (l : List (Int × Value)) (bs : List (Nat × Array Value)) (w : World) : Prop where
  bel : Below w0.heap.size w0 w
  low : w0.heap.size ≤ m
  map : IsMap w m l
  box : ∀ p ∈ bs, Blk w p.1 p.2 55
theorem Grw.later {w0 : World} {m : Nat} {l : List (Int × Value)} {bs : List (Nat × Array Value)} {w w' : World} (h : Grw w0 m l bs w) (hb : Below w.heap.size w w') : Grw w0 m l bs w' :=
  ⟨h.bel.trans (hb.mono h.bel.size), h.low, h.map.later hb, fun p hp => (h.box p hp).later hb⟩
theorem Grw.put {w0 : World} {m : Nat} {l : List (Int × Value)} {bs : List (Nat × Array Value)} {w : World} (h : Grw w0 m l bs w) (l' : List (Int × Value)) : Grw w0 m l' bs (putMap w m l') :=
  ⟨putMap_below h.bel h.low l', h.low, putMap_is h.map.lt l', fun p hp => by
    have hne : p.1 ≠ m := fun e => by
      have h1 := h.box p hp
      have h2 := h.map
      unfold Blk at h1; unfold IsMap at h2
      rw [e, h2] at h1; cases h1
    exact (putMap_other hne l').trans (h.box p hp)⟩
theorem Grw.add {w0 : World} {m : Nat} {l : List (Int × Value)} {bs : List (Nat × Array Value)} {w : World} (h : Grw w0 m l bs w) {b : Nat} {cs : Array Value} (hk : Blk w b cs 55) : Grw w0 m l ((b, cs) :: bs) w :=
  ⟨h.bel, h.low, h.map, fun p hp => by rcases List.mem_cons.1 hp with rfl | hp; exact hk; exact h.box p hp⟩

set_option maxHeartbeats 8000000 in
set_option maxRecDepth 100000 in
theorem begin_any (w : World) : Calls Tryz.prog 19 #[] w (fun e w' => ∃ m, e = .returned (.map (some m)) ∧ Known m w' ∧ Below w.heap.size w w') := by
  have hmm := @run_makeMap Tryz.prog
  have H0 : Hid (Grw w w.heap.size [] [] (w.alloc (.map #[] 0))) := ⟨(Below.refl _ _).alloc (Nat.le_refl _) _, Nat.le_refl _, by unfold IsMap mapEs; show (w.heap.push _)[w.heap.size]? = _; simp, by simp⟩
  go_enter Tryz.func19, Tryz.ntmps19
  go_wp2_with fail
  generalize w.alloc (.map #[] 0) = w0 at *
  refine (of_any 0 255 (by decide) (by decide) _).mono ?_; rintro e wa ⟨rfl, hba⟩
  have H1 := Lib.hid (H0.out.later hba)
  clear hba
  unfold cls
  go_wp2_with fail
  generalize hb1 : wa.heap.size = b1 at *
  refine (alone_any _ _ _ _ _ _ _ _ _ _).mono ?_; rintro e wb1 ⟨rfl, hk, hb⟩
  rw [hb1] at hk
  have HN := Lib.hid ((H1.out.later hb).add hk)
  clear hk hb H1
  have hu := run_update_rune wb1 w.heap.size [] 46 (alV b1) HN.out.map rfl
  have P1 := Lib.hid (HN.out.put ([(46, alV b1)]))
  rw [hb1]
  clear hb1 HN
  go_wp2_with fail
  (try simp only [List.nil_append, List.cons_append] at P1 ⊢)
  generalize putMap wb1 w.heap.size [(46, alV b1)] = wc1 at *
  clear hu
  generalize hb2 : wc1.heap.size = b2 at *
  refine (alone_any _ _ _ _ _ _ _ _ _ _).mono ?_; rintro e wb2 ⟨rfl, hk, hb⟩
  rw [hb2] at hk
  have HN := Lib.hid ((P1.out.later hb).add hk)
  clear hk hb P1
  have hu := run_update_rune wb2 w.heap.size [(46, alV b1)] 40 (alV b2) HN.out.map rfl
  have P2 := Lib.hid (HN.out.put ([(46, alV b1), (40, alV b2)]))
  rw [hb2]
  clear hb2 HN
  go_wp2_with fail
  (try simp only [List.nil_append, List.cons_append] at P2 ⊢)
  generalize putMap wb2 w.heap.size [(46, alV b1), (40, alV b2)] = wc2 at *
  clear hu
  generalize hb3 : wc2.heap.size = b3 at *
  refine (alone_any _ _ _ _ _ _ _ _ _ _).mono ?_; rintro e wb3 ⟨rfl, hk, hb⟩
  rw [hb3] at hk
  have HN := Lib.hid ((P2.out.later hb).add hk)
  clear hk hb P2
  have hu := run_update_rune wb3 w.heap.size [(46, alV b1), (40, alV b2)] 41 (alV b3) HN.out.map rfl
  have P3 := Lib.hid (HN.out.put ([(46, alV b1), (40, alV b2), (41, alV b3)]))
  rw [hb3]
  clear hb3 HN
  go_wp2_with fail
  (try simp only [List.nil_append, List.cons_append] at P3 ⊢)
  generalize putMap wb3 w.heap.size [(46, alV b1), (40, alV b2), (41, alV b3)] = wc3 at *
  clear hu
  generalize hb4 : wc3.heap.size = b4 at *
  refine (alone_any _ _ _ _ _ _ _ _ _ _).mono ?_; rintro e wb4 ⟨rfl, hk, hb⟩
  rw [hb4] at hk
  have HN := Lib.hid ((P3.out.later hb).add hk)
  clear hk hb P3
  have hu := run_update_rune wb4 w.heap.size [(46, alV b1), (40, alV b2), (41, alV b3)] 124 (alV b4) HN.out.map rfl
  have P4 := Lib.hid (HN.out.put ([(46, alV b1), (40, alV b2), (41, alV b3), (124, alV b4)]))
  rw [hb4]
  clear hb4 HN
  go_wp2_with fail
  (try simp only [List.nil_append, List.cons_append] at P4 ⊢)
  generalize putMap wb4 w.heap.size [(46, alV b1), (40, alV b2), (41, alV b3), (124, alV b4)] = wc4 at *
  clear hu
  generalize hb5 : wc4.heap.size = b5 at *
  refine (alone_any _ _ _ _ _ _ _ _ _ _).mono ?_; rintro e wb5 ⟨rfl, hk, hb⟩
  rw [hb5] at hk
  have HN := Lib.hid ((P4.out.later hb).add hk)
  clear hk hb P4
  have hu := run_update_rune wb5 w.heap.size [(46, alV b1), (40, alV b2), (41, alV b3), (124, alV b4)] 42 (alV b5) HN.out.map rfl
  have P5 := Lib.hid (HN.out.put ([(46, alV b1), (40, alV b2), (41, alV b3), (124, alV b4), (42, alV b5)]))
  rw [hb5]
  clear hb5 HN
  go_wp2_with fail
  (try simp only [List.nil_append, List.cons_append] at P5 ⊢)
  generalize putMap wb5 w.heap.size [(46, alV b1), (40, alV b2), (41, alV b3), (124, alV b4), (42, alV b5)] = wc5 at *
  clear hu
  generalize hb6 : wc5.heap.size = b6 at *
  refine (alone_any _ _ _ _ _ _ _ _ _ _).mono ?_; rintro e wb6 ⟨rfl, hk, hb⟩
  rw [hb6] at hk
  have HN := Lib.hid ((P5.out.later hb).add hk)
  clear hk hb P5
  have hu := run_update_rune wb6 w.heap.size [(46, alV b1), (40, alV b2), (41, alV b3), (124, alV b4), (42, alV b5)] 98 (alV b6) HN.out.map rfl
  have P6 := Lib.hid (HN.out.put ([(46, alV b1), (40, alV b2), (41, alV b3), (124, alV b4), (42, alV b5), (98, alV b6)]))
  rw [hb6]
  clear hb6 HN
  go_wp2_with fail
  (try simp only [List.nil_append, List.cons_append] at P6 ⊢)
  generalize putMap wb6 w.heap.size [(46, alV b1), (40, alV b2), (41, alV b3), (124, alV b4), (42, alV b5), (98, alV b6)] = wc6 at *
  clear hu
  generalize hb7 : wc6.heap.size = b7 at *
  refine (alone_any _ _ _ _ _ _ _ _ _ _).mono ?_; rintro e wb7 ⟨rfl, hk, hb⟩
  rw [hb7] at hk
  have HN := Lib.hid ((P6.out.later hb).add hk)
  clear hk hb P6
  have hu := run_update_rune wb7 w.heap.size [(46, alV b1), (40, alV b2), (41, alV b3), (124, alV b4), (42, alV b5), (98, alV b6)] 119 (alV b7) HN.out.map rfl
  have P7 := Lib.hid (HN.out.put ([(46, alV b1), (40, alV b2), (41, alV b3), (124, alV b4), (42, alV b5), (98, alV b6), (119, alV b7)]))
  rw [hb7]
  clear hb7 HN
  have hv0 := run_update_rune (putMap wb7 w.heap.size [(46, alV b1), (40, alV b2), (41, alV b3), (124, alV b4), (42, alV b5), (98, alV b6), (119, alV b7)]) w.heap.size [(46, alV b1), (40, alV b2), (41, alV b3), (124, alV b4), (42, alV b5), (98, alV b6), (119, alV b7)] 60 (.agg #[.string ⟨#[62]⟩, .int .i64 2, .func (.func 36) #[] #[]]) P7.out.map rfl
  have P8 := Lib.hid (P7.out.put ([(46, alV b1), (40, alV b2), (41, alV b3), (124, alV b4), (42, alV b5), (98, alV b6), (119, alV b7), (60, .agg #[.string ⟨#[62]⟩, .int .i64 2, .func (.func 36) #[] #[]])]))
  (try simp only [List.nil_append, List.cons_append] at hv0)
  have hv1 := run_update_rune (putMap (putMap wb7 w.heap.size [(46, alV b1), (40, alV b2), (41, alV b3), (124, alV b4), (42, alV b5), (98, alV b6), (119, alV b7)]) w.heap.size [(46, alV b1), (40, alV b2), (41, alV b3), (124, alV b4), (42, alV b5), (98, alV b6), (119, alV b7), (60, .agg #[.string ⟨#[62]⟩, .int .i64 2, .func (.func 36) #[] #[]])]) w.heap.size [(46, alV b1), (40, alV b2), (41, alV b3), (124, alV b4), (42, alV b5), (98, alV b6), (119, alV b7), (60, .agg #[.string ⟨#[62]⟩, .int .i64 2, .func (.func 36) #[] #[]])] 34 (.agg #[.string ⟨#[34]⟩, .int .i64 3, .func (.func 37) #[] #[]]) P8.out.map rfl
  have P9 := Lib.hid (P8.out.put ([(46, alV b1), (40, alV b2), (41, alV b3), (124, alV b4), (42, alV b5), (98, alV b6), (119, alV b7), (60, .agg #[.string ⟨#[62]⟩, .int .i64 2, .func (.func 36) #[] #[]]), (34, .agg #[.string ⟨#[34]⟩, .int .i64 3, .func (.func 37) #[] #[]])]))
  (try simp only [List.nil_append, List.cons_append] at hv1)
  have hv2 := run_update_rune (putMap (putMap (putMap wb7 w.heap.size [(46, alV b1), (40, alV b2), (41, alV b3), (124, alV b4), (42, alV b5), (98, alV b6), (119, alV b7)]) w.heap.size [(46, alV b1), (40, alV b2), (41, alV b3), (124, alV b4), (42, alV b5), (98, alV b6), (119, alV b7), (60, .agg #[.string ⟨#[62]⟩, .int .i64 2, .func (.func 36) #[] #[]])]) w.heap.size [(46, alV b1), (40, alV b2), (41, alV b3), (124, alV b4), (42, alV b5), (98, alV b6), (119, alV b7), (60, .agg #[.string ⟨#[62]⟩, .int .i64 2, .func (.func 36) #[] #[]]), (34, .agg #[.string ⟨#[34]⟩, .int .i64 3, .func (.func 37) #[] #[]])]) w.heap.size [(46, alV b1), (40, alV b2), (41, alV b3), (124, alV b4), (42, alV b5), (98, alV b6), (119, alV b7), (60, .agg #[.string ⟨#[62]⟩, .int .i64 2, .func (.func 36) #[] #[]]), (34, .agg #[.string ⟨#[34]⟩, .int .i64 3, .func (.func 37) #[] #[]])] 123 (.agg #[.string ⟨#[125]⟩, .int .i64 4, .func (.func 38) #[] #[]]) P9.out.map rfl
  have P10 := Lib.hid (P9.out.put ([(46, alV b1), (40, alV b2), (41, alV b3), (124, alV b4), (42, alV b5), (98, alV b6), (119, alV b7), (60, .agg #[.string ⟨#[62]⟩, .int .i64 2, .func (.func 36) #[] #[]]), (34, .agg #[.string ⟨#[34]⟩, .int .i64 3, .func (.func 37) #[] #[]]), (123, .agg #[.string ⟨#[125]⟩, .int .i64 4, .func (.func 38) #[] #[]])]))
  (try simp only [List.nil_append, List.cons_append] at hv2)
  (try simp only [List.nil_append, List.cons_append] at hu)
  go_wp2
  go_ret
  have hG := P10.out
  refine ⟨w.heap.size, rfl, ⟨b1, b2, b3, b4, b5, b6, b7, hG.map, ?_, ?_, ?_, ?_, ?_, ?_, ?_⟩, hG.bel⟩
  · exact hG.box (b1, _) (by simp; done)
  · exact hG.box (b2, _) (by simp; done)
  · exact hG.box (b3, _) (by simp; done)
  · exact hG.box (b4, _) (by simp; done)
  · exact hG.box (b5, _) (by simp; done)
  · exact hG.box (b6, _) (by simp; done)
  · exact hG.box (b7, _) (by simp; done)
end Go.Proofs.YtpbadglfegcdjaaGreatDoor
