/- The anchor of layer 7. -/
import Derived.Test.YtnjkljjeldnblaaM20
namespace Go.Proofs.Ytnjkljjeldnblaa
open Go Go.RowKit
set_option linter.unusedVariables false
set_option linter.unusedSimpArgs false

def azTn : Nd := ⟨3, 0, 0, 0, 0, 0#256, [97, 98]⟩
def azBn : Nd := ⟨2, 0, 0, 0, 0, 0#256, []⟩
def azT : List Nd := [azTn]
def azB : List Nd := [azBn]
def azF : List Nd := wrapL 8 0 0 azB
def azW : List Nd := wrapL 9 0 0 azF
def azR : List Nd := wrapL 7 1 3 azT
def azV : List Nd := wrapL 9 0 0 azW
def azU : List Nd := wrapL 9 0 0 azV
theorem sm_one {n : Nd} (h : okN [n] 0 n) (hk : leafK n.kind) (ht : n.text.length ≤ 281474976710656) : Sm [n] := by
  refine ⟨⟨by simp, fun i hi => ?_, ?_⟩, by simp, fun m hm => ?_⟩
  · obtain rfl : i = 0 := by simpa using hi
    exact h
  · show firstP [n] 0 = 0
    have := firstP_le [n] 0; omega
  · rw [List.mem_singleton.1 hm]; exact ht
theorem azT_sm : Sm azT := sm_one ⟨by decide, .inr (.inr (.inl ⟨rfl, by decide⟩))⟩ (.inr (.inr rfl)) (by decide)
theorem azB_sm : Sm azB := sm_one ⟨by decide, .inr (.inl rfl)⟩ (.inr (.inl rfl)) (by decide)
theorem azF_sm : Sm azF := azB_sm.wrap (by decide) (.inr (.inl rfl))
theorem azW_sm : Sm azW := azF_sm.wrap (by decide) (.inr (.inr rfl))
theorem azR_sm : Sm azR := azT_sm.rep (by decide) (by decide) (by decide) (by decide)
theorem azV_sm : Sm azV := azW_sm.wrap (by decide) (.inr (.inr rfl))
theorem azU_sm : Sm azU := azV_sm.wrap (by decide) (.inr (.inr rfl))
theorem azT_size : szD azT = 3 := by decide
theorem azF_size : szD azF = 513 := by decide
theorem azF_size0 : szN azF 0 = 1 := by decide
theorem azW_size : szD azW = 33620225 := by decide
theorem azR_size : szD azR = 7 := by decide
theorem azU_size : szD azU = 1099511627776 := by decide
theorem bd0 : bdN 0 = 1 := by decide
theorem bd3 : bdN 3 = 64 := by decide
theorem bd31 : bdN 31 = 4611686018427387904 := by decide
theorem bdBig : bdN 2199023255552 = 4611686018427387904 := by decide
/-- A description in a box. -/
structure Dx (b : Nat) (A : Option Addr) (l : List Nd) (n c : Nat) (w : World) : Prop where
  cap : l.length ≤ c
  len : l.length = n
  box : Blk w b #[.slice A n c] 24
  row : NRow w A l
theorem Dx.later {b : Nat} {A : Option Addr} {l : List Nd} {n c : Nat} {w w' : World} (h : Dx b A l n c w) (hb : Below w.heap.size w w') : Dx b A l n c w' := ⟨h.cap, h.len, h.box.later hb, h.row.later hb⟩
theorem Dx.isD {b : Nat} {A : Option Addr} {l : List Nd} {n c : Nat} {w : World} (h : Dx b A l n c w) : IsD l (.agg #[.slice A n c]) w := ⟨A, c, h.cap, by rw [h.len], h.row⟩
theorem Dx.load {b : Nat} {A : Option Addr} {l : List Nd} {n c : Nat} {w : World} (h : Dx b A l n c w) : w.cell? ⟨b, 0, none⟩ = some (.slice A n c) := by
  have := h.box.cell 0; simpa using this
theorem nrow_one {n : Nd} {b : Nat} {w : World} (h : Blk w b (ndC n) 36) : NRow w (some ⟨b, 0, none⟩) [n] := fun i hi => by
  obtain rfl : i = 0 := by simpa using hi
  exact ⟨b, 0, rfl, h.lt, fun j _ => by rw [h.cell]; simp⟩
theorem dx_one (n : Nd) (w : World) {cs : Array Value} (hc : ndC n = cs) : Dx (w.heap.size + 1) (some ⟨w.heap.size, 0, none⟩) [n] 1 1 ((w.alloc (.cells cs 36)).alloc (.cells #[.slice (some ⟨w.heap.size, 0, none⟩) 1 1] 24)) ∧ Below w.heap.size w ((w.alloc (.cells cs 36)).alloc (.cells #[.slice (some ⟨w.heap.size, 0, none⟩) 1 1] 24)) := by
  subst hc
  exact ⟨⟨by simp, rfl, Blk.new' (by simp) _ _, nrow_one ((Blk.new w _ _).alloc _)⟩, ((Below.refl w.heap.size w).alloc (Nat.le_refl _) _).alloc (by simp) _⟩
theorem dx_of {l : List Nd} {w : World} {A : Option Addr} {n c : Nat} (hr : NRow w A l) (hl : l.length = n) (hc : n ≤ c) : Dx w.heap.size A l n c (w.alloc (.cells #[.slice A n c] 24)) :=
  ⟨by omega, hl, Blk.new w _ _, hr.later ((Below.refl w.heap.size w).alloc (Nat.le_refl _) _)⟩
structure AzS (w0 : World) (bt : Nat) (At : Option Addr) (bf : Nat) (Af : Option Addr) (cf bw : Nat) (Aw : Option Addr) (cw : Nat) (w : World) : Prop where
  bel : Below w0.heap.size w0 w
  t : Dx bt At azT 1 1 w
  f : Dx bf Af azF 2 cf w
  w : Dx bw Aw azW 3 cw w
theorem AzS.later {w0 w w' : World} {bt : Nat} {At : Option Addr} {bf : Nat} {Af : Option Addr} {cf bw : Nat} {Aw : Option Addr} {cw : Nat} (h : AzS w0 bt At bf Af cf bw Aw cw w) (hb : Below w.heap.size w w') : AzS w0 bt At bf Af cf bw Aw cw w' := ⟨h.bel.trans (hb.mono h.bel.size), h.t.later hb, h.f.later hb, h.w.later hb⟩
set_option maxHeartbeats 16000000 in
set_option maxRecDepth 1000000 in
theorem awake7_any (w : World) : Calls Try.prog 7 #[] w (Ans w (.bool true)) := by
  go_enter Try.func7, Try.ntmps7
  go_upto_region 2 with (fail)
  obtain ⟨ht, hb1⟩ := dx_one azTn w (cs := #[.int .i64 3, .int .i64 0, .int .i64 0, .int .i64 0, .int .i64 0, .int .u64 0, .int .u64 0, .int .u64 0, .int .u64 0, .string ⟨#[97, 98]⟩]) (by unfold azTn; rw [ndC_zero]; rfl)
  have HT1 : Hid (Dx (w.heap.size + 1) (some ⟨w.heap.size, 0, none⟩) azT 1 1 _) := ht
  have HB1 := Lib.hid hb1
  clear ht hb1
  generalize (w.alloc (.cells #[.int .i64 3, .int .i64 0, .int .i64 0, .int .i64 0, .int .i64 0, .int .u64 0, .int .u64 0, .int .u64 0, .int .u64 0, .string ⟨#[97, 98]⟩] 36)).alloc (.cells #[.slice (some ⟨w.heap.size, 0, none⟩) 1 1] 24) = w1 at *
  generalize w.heap.size + 1 = bt at *
  generalize (some ⟨w.heap.size, 0, none⟩ : Option Addr) = At at *
  go_upto_region 3 with (fail)
  obtain ⟨hb, hb2⟩ := dx_one azBn w1 (cs := #[.int .i64 2, .int .i64 0, .int .i64 0, .int .i64 0, .int .i64 0, .int .u64 0, .int .u64 0, .int .u64 0, .int .u64 0, .string ⟨#[]⟩]) (by unfold azBn; rw [ndC_zero]; rfl)
  have HBB : Hid (Dx (w1.heap.size + 1) (some ⟨w1.heap.size, 0, none⟩) azB 1 1 _) := hb
  have HT2 := Lib.hid (HT1.out.later hb2)
  have HB2 := Lib.hid (HB1.out.trans (hb2.mono HB1.out.size))
  clear hb hb2
  generalize (w1.alloc (.cells #[.int .i64 2, .int .i64 0, .int .i64 0, .int .i64 0, .int .i64 0, .int .u64 0, .int .u64 0, .int .u64 0, .int .u64 0, .string ⟨#[]⟩] 36)).alloc (.cells #[.slice (some ⟨w1.heap.size, 0, none⟩) 1 1] 24) = w2 at *
  generalize w1.heap.size + 1 = bb at *
  generalize (some ⟨w1.heap.size, 0, none⟩ : Option Addr) = Ab at *
  have e0 := HBB.out.load
  go_wp2_with fail
  refine (HBB.out.isD.rwrap azB_sm 8 0 0).mono ?_; intro e w3 hp; obtain ⟨s3, rfl, ho3, hb3⟩ := hp
  obtain ⟨A3, c3, hc3, hv3, hr3⟩ := ho3.isD
  have e3 : (wrapL 8 0 0 azB).length = 2 := rfl
  rw [e3] at hc3 hv3
  obtain rfl : s3 = .slice A3 2 c3 := by simpa using hv3
  have HT3 := Lib.hid (HT2.out.later (hb3.trans ((Below.refl _ _).alloc hb3.size (.cells #[.slice A3 2 c3] 24))))
  have HB3 := Lib.hid (HB2.out.trans ((hb3.trans ((Below.refl _ _).alloc hb3.size (.cells #[.slice A3 2 c3] 24))).mono HB2.out.size))
  have HF3 : Hid (Dx w3.heap.size A3 azF 2 c3 _) := dx_of hr3 e3 hc3
  clear hb3 ho3 hr3 hv3 hc3 e0 e3
  go_upto_region 4 with (fail)
  generalize w3.alloc (.cells #[.slice A3 2 c3] 24) = w4 at *
  generalize w3.heap.size = bf at *
  have e0 := HF3.out.load
  go_wp2_with fail
  refine (HF3.out.isD.rwrap azF_sm 9 0 0).mono ?_; intro e w5 hp; obtain ⟨s5, rfl, ho5, hb5⟩ := hp
  obtain ⟨A5, c5, hc5, hv5, hr5⟩ := ho5.isD
  have e5 : (wrapL 9 0 0 azF).length = 3 := rfl
  rw [e5] at hc5 hv5
  obtain rfl : s5 = .slice A5 3 c5 := by simpa using hv5
  have hbb := hb5.trans ((Below.refl _ _).alloc hb5.size (.cells #[.slice A5 3 c5] 24))
  have HS0 : Hid (AzS w bt At bf A3 c3 w5.heap.size A5 c5 _) := ⟨HB3.out.trans (hbb.mono HB3.out.size), HT3.out.later hbb, HF3.out.later hbb, dx_of hr5 e5 hc5⟩
  clear hb5 ho5 hr5 hv5 hc5 e0 e5 hbb
  go_upto_region 5 with (fail)
  generalize w5.alloc (.cells #[.slice A5 3 c5] 24) = w6 at *
  generalize w5.heap.size = bw at *
  clear HT1 HB1 HBB HT2 HB2 HT3 HB3 HF3
  have e0 := HS0.out.t.load
  have e1 := HS0.out.f.load
  have e2 := HS0.out.w.load
  have CO := Lib.hid (HS0.out.t.isD.sof azT_sm)
  rw [azT_size] at CO
  go_wp2_with fail
  refine (CO.out).mono ?_; rintro e x1 ⟨rfl, hb⟩
  have HS1 := Lib.hid (HS0.out.later hb)
  clear hb CO e0 e1 e2 HS0
  have e0 := HS1.out.t.load
  have e1 := HS1.out.f.load
  have e2 := HS1.out.w.load
  have CO := Lib.hid (HS1.out.f.isD.sof azF_sm)
  rw [azF_size] at CO
  go_wp2_with fail
  refine (CO.out).mono ?_; rintro e x2 ⟨rfl, hb⟩
  have HS2 := Lib.hid (HS1.out.later hb)
  clear hb CO e0 e1 e2 HS1
  have e0 := HS2.out.t.load
  have e1 := HS2.out.f.load
  have e2 := HS2.out.w.load
  have CO := Lib.hid (HS2.out.f.isD.snode azF_sm (i := 0) (by decide))
  rw [azF_size0] at CO
  go_wp2_with fail
  refine (CO.out).mono ?_; rintro e x3 ⟨rfl, hb⟩
  have HS3 := Lib.hid (HS2.out.later hb)
  clear hb CO e0 e1 e2 HS2
  have e0 := HS3.out.t.load
  have e1 := HS3.out.f.load
  have e2 := HS3.out.w.load
  have CO := Lib.hid (HS3.out.w.isD.sof azW_sm)
  rw [azW_size] at CO
  go_wp2_with fail
  refine (CO.out).mono ?_; rintro e x4 ⟨rfl, hb⟩
  have HS4 := Lib.hid (HS3.out.later hb)
  clear hb CO e0 e1 e2 HS3
  have e0 := HS4.out.t.load
  have e1 := HS4.out.f.load
  have e2 := HS4.out.w.load
  go_wp2_with fail
  refine (HS4.out.t.isD.rwrap azT_sm 7 1 3).mono ?_; intro e x5 hp; obtain ⟨s, rfl, ho, hb⟩ := hp
  have HI7 : Hid (IsD azR (.agg #[s]) x5) := ho.isD
  have HS5 := Lib.hid (HS4.out.later hb)
  clear hb ho e0 e1 e2 HS4
  have e0 := HS5.out.t.load
  have e1 := HS5.out.f.load
  have e2 := HS5.out.w.load
  have CO := Lib.hid (HI7.out.sof azR_sm)
  rw [azR_size] at CO
  go_wp2_with fail
  refine (CO.out).mono ?_; rintro e x6 ⟨rfl, hb⟩
  have HS6 := Lib.hid (HS5.out.later hb)
  clear hb CO e0 e1 e2 HS5 HI7
  have e0 := HS6.out.t.load
  have e1 := HS6.out.f.load
  have e2 := HS6.out.w.load
  go_wp2_with fail
  refine (HS6.out.w.isD.rwrap azW_sm 9 0 0).mono ?_; intro e x7 hp; obtain ⟨s8, rfl, ho, hb⟩ := hp
  have HI8 : Hid (IsD azV (.agg #[s8]) x7) := ho.isD
  have HS7 := Lib.hid (HS6.out.later hb)
  clear hb ho e0 e1 e2 HS6
  go_wp2_with fail
  refine (HI8.out.rwrap azV_sm 9 0 0).mono ?_; intro e x8 hp; obtain ⟨s9, rfl, ho, hb⟩ := hp
  have HI9 : Hid (IsD azU (.agg #[s9]) x8) := ho.isD
  have HS8 := Lib.hid (HS7.out.later hb)
  clear hb ho HS7 HI8
  have CO := Lib.hid (HI9.out.sof azU_sm)
  rw [azU_size] at CO
  go_wp2_with fail
  refine (CO.out).mono ?_; rintro e x9 ⟨rfl, hb⟩
  have HS9 := Lib.hid (HS8.out.later hb)
  clear hb CO HS8 HI9
  have CO := Lib.hid (bound_any 0 (by decide) x9)
  rw [bd0] at CO
  go_wp2_with fail
  refine (CO.out).mono ?_; rintro e xx ⟨rfl, rfl⟩
  clear CO
  have CO := Lib.hid (bound_any 3 (by decide) x9)
  rw [bd3] at CO
  go_wp2_with fail
  refine (CO.out).mono ?_; rintro e xx ⟨rfl, rfl⟩
  clear CO
  have CO := Lib.hid (bound_any 31 (by decide) x9)
  rw [bd31] at CO
  go_wp2_with fail
  refine (CO.out).mono ?_; rintro e xx ⟨rfl, rfl⟩
  clear CO
  have CO := Lib.hid (bound_any 2199023255552 (by decide) x9)
  rw [bdBig] at CO
  go_wp2_with fail
  refine (CO.out).mono ?_; rintro e xx ⟨rfl, rfl⟩
  clear CO
  go_wp2
  go_ret
  exact ⟨rfl, HS9.out.bel⟩
end Go.Proofs.Ytnjkljjeldnblaa
/- The statement SizeTells of layer 7, walked. -/
namespace Go.Proofs.Ytnjkljjeldnblaa
open Go Go.RowKit
set_option linter.unusedVariables false
set_option linter.unusedSimpArgs false

theorem FstS.isD {w0 w : World} {A : Option Addr} {l : List Nd} {c : Nat} (h : FstS w0 A l c w) (hc : l.length ≤ c) : IsD l (.agg #[.slice A l.length c]) w := ⟨A, c, hc, rfl, h.row⟩
set_option maxHeartbeats 64000000 in
set_option maxRecDepth 1000000 in
theorem sizetells_walk (l : List Nd) (A : Option Addr) (c q n : Nat) (hq : q < 65536) (hn : n < 65536) (hc1 : l.length ≤ c) (hl : l.length ≤ 9223372036854775807) (htx : Txt l) (w : World) (hrow : NRow w A l) :
    Calls Try.prog 3 #[.agg #[.slice A l.length c], .int .u16 (q : Int), .int .u16 (n : Int)] w (Ans w (.bool true)) := by
  have HB := (Below.refl w.heap.size w).alloc (Nat.le_refl _) (.cells #[.slice A l.length c] 24)
  have HS0 : Hid (FstS w A l c (w.alloc (.cells #[.slice A l.length c] 24))) := ⟨HB, hrow.later HB, Blk.new _ _ _⟩
  have HTX := Lib.hid htx
  clear hrow HB htx
  go_enter Try.func3, Try.ntmps3
  go_upto_region 1 with (fail)
  generalize w.alloc (.cells #[.slice A l.length c] 24) = w1 at *
  go_wp2_with fail
  refine (awake7_any _).mono ?_; rintro e w2 ⟨rfl, hb⟩
  have HS2 := Lib.hid (HS0.out.later hb)
  clear hb HS0
  have e0 := HS2.out.box.cell 0
  simp at e0
  have HF := Lib.hid (few_any l A c hl HTX.out _ HS2.out.row)
  cases hf : fewB l with
  | false =>
    rw [hf] at HF
    clear hf
    go_wp2_with fail
    refine HF.out.mono ?_; rintro e w3 ⟨rfl, hb⟩
    have HS3 := Lib.hid (HS2.out.later hb)
    clear hb e0 HF HS2
    go_wp2_with fail
    refine (awake7_any _).mono ?_; rintro e WN ⟨rfl, hb⟩
    have HSY := Lib.hid (HS3.out.later hb)
    clear hb
    go_wp2
    go_ret
    exact ⟨rfl, HSY.out.bel⟩
  | true =>
    rw [hf] at HF
    have L1 := Lib.hid (few_txt hf).1
    clear hf
    go_wp2_with fail
    refine HF.out.mono ?_; rintro e w3 ⟨rfl, hb⟩
    have HS3 := Lib.hid (HS2.out.later hb)
    clear hb e0 HF HS2
    have e0 := HS3.out.box.cell 0
    simp at e0
    have HF := Lib.hid (refform_any l A c (by have := L1.out; omega) HTX.out _ HS3.out.row)
    cases hf : formB l with
    | false =>
      rw [hf] at HF
      clear hf
      go_wp2_with fail
      refine HF.out.mono ?_; rintro e w4 ⟨rfl, hb⟩
      have HS4 := Lib.hid (HS3.out.later hb)
      clear hb e0 HF HS3
      go_wp2_with fail
      refine (awake7_any _).mono ?_; rintro e WN ⟨rfl, hb⟩
      have HSY := Lib.hid (HS4.out.later hb)
      clear hb
      go_wp2
      go_ret
      exact ⟨rfl, HSY.out.bel⟩
    | true =>
      rw [hf] at HF
      have hfo := (formB_iff l).1 hf
      clear hf
      have hlen := L1.out
      have HSM : Hid (Sm l) := ⟨hfo, by omega, HTX.out⟩
      have hpos := hfo.1
      clear hfo
      go_wp2_with fail
      refine HF.out.mono ?_; rintro e w4 ⟨rfl, hb⟩
      have HS4 := Lib.hid (HS3.out.later hb)
      clear hb e0 HF HS3
      have e0 := HS4.out.box.cell 0
      simp at e0
      have hposz : (0 : Int) < (l.length : Int) := by omega
      have hne : ((l.length : Int) == 0) = false := by rw [beq_eq_false_iff_ne]; omega
      have hmod : (q : Int) % (l.length : Int) = ((q % l.length : Nat) : Int) := by omega
      have hil : q % l.length < l.length := Nat.mod_lt _ hpos
      go_upto_region 4 with (fail)
      generalize hii : q % l.length = i at *
      rw [hmod]
      clear hii hmod hne hposz e0
      have C1 : Hid (∀ w', FstS w A l c w' → Calls Try.prog 10 #[.agg #[.slice A l.length c]] w' (Ans w' (.int .i64 ((szD l : Nat) : Int)))) := fun w' h => (h.isD hc1).sof HSM.out
      have C2 : Hid (∀ w', FstS w A l c w' → Calls Try.prog 11 #[.agg #[.slice A l.length c]] w' (Ans w' (.int .i64 ((szD l : Nat) : Int)))) := fun w' h => (h.isD hc1).rof HSM.out
      have C3 : Hid (∀ w', FstS w A l c w' → Calls Try.prog 12 #[.agg #[.slice A l.length c], .int .i64 (i : Int)] w' (Ans w' (.int .i64 ((szN l i : Nat) : Int)))) := fun w' h => (h.isD hc1).snode HSM.out hil
      have C4 : Hid (∀ w', FstS w A l c w' → Calls Try.prog 13 #[.agg #[.slice A l.length c], .int .i64 (i : Int)] w' (Ans w' (.int .i64 ((szN l i : Nat) : Int)))) := fun w' h => (h.isD hc1).rnode HSM.out hil
      have C5 : Hid (∀ w', Calls Try.prog 14 #[.int .i64 (n : Int)] w' (Pure w' (.int .i64 ((bdN n : Nat) : Int)))) := fun w' => bound_any n (by omega) w'
      have C6 : Hid (∀ w', Calls Try.prog 15 #[.int .i64 (n : Int)] w' (Pure w' (.int .i64 ((bdN n : Nat) : Int)))) := fun w' => rbound_any n (by omega) w'
      generalize szD l = x at *
      generalize szN l i = y at *
      generalize bdN n = z at *
      have hx : ((x : Int) == (x : Int)) = true := by simp
      have hy : ((y : Int) == (y : Int)) = true := by simp
      have hz0 : ((z : Int) == (z : Int)) = true := by simp
      refine wp_region_stable (S := (FstS w A l c)) (hSt := fun _ _ h hb => h.later hb) (plan := [[(3, none)], [(27, some 0)], [(3, none)], [(29, some 2)], [(28, some 1), (30, some 3)], [(31, some 4)], [(3, none)], [(7, none)], [(33, some 6), (34, some 7)], [(3, none)], [(7, none)], [(36, some 9), (37, some 10)], [(35, some 8), (38, some 11)], [(32, some 5), (39, some 12)], [(40, some 13)], [(2, none)], [(42, some 15)], [(43, some 16)], [(2, none)], [(45, some 18)], [(46, some 19)], [(44, some 17), (47, some 20)], [(41, some 14), (48, some 21)], [(49, some 22)]]) (by kernel_rfl) (by kernel_rfl) (by kernel_rfl) ?hS ?_
      rotate_left
      iterate 24 first
        | (refine chain_skip (by rfl) (by rfl) ?_)
        | (apply chain_want (by rfl)
           · intro act wx hS hr
             simp at hr
             have e0 := hS.box.cell 0
             simp at e0
             go_simp
             (try go_ints)
             first
               | ((with_reducible refine (C1.out _ hS).mono ?_); rintro e w' ⟨rfl, hb⟩; exact Done.mk hb)
               | ((with_reducible refine (C2.out _ hS).mono ?_); rintro e w' ⟨rfl, hb⟩; exact Done.mk hb)
               | ((with_reducible refine (C3.out _ hS).mono ?_); rintro e w' ⟨rfl, hb⟩; exact Done.mk hb)
               | ((with_reducible refine (C4.out _ hS).mono ?_); rintro e w' ⟨rfl, hb⟩; exact Done.mk hb)
               | ((with_reducible refine (C5.out _).mono ?_); rintro e w' ⟨rfl, rfl⟩; exact Done.same)
               | ((with_reducible refine (C6.out _).mono ?_); rintro e w' ⟨rfl, rfl⟩; exact Done.same)
               | exact Done.same
          )
      show ∀ w', _ → _
      intro wy hw
      simp [Act.put]
      case hS => exact HS4.out
      have HY := Lib.hid hw
      clear hw
      go_wp2
      go_ret
      exact ⟨rfl, HY.out.bel⟩
end Go.Proofs.Ytnjkljjeldnblaa
/- The statement SizeFrames of layer 7, walked. -/
namespace Go.Proofs.Ytnjkljjeldnblaa
open Go Go.RowKit
set_option linter.unusedVariables false
set_option linter.unusedSimpArgs false

theorem szD_of (l : List Nd) : szD l = min (szN l (l.length - 1) + 1) szM := rfl
theorem frames_math {x s f v : Nat} (hx : x ≤ szM) (hs : s = min (x + 1) szM) (hf : f = min (oneS 8 0 x + 1) szM) (hv : v = min (oneS 9 0 x + 1) szM) :
    (s < 1099511627776 → min (256 * (s : Int) + 1) 1099511627776 = (f : Int) ∧ min (256 + 65536 * (s : Int) + 1) 1099511627776 = (v : Int)) ∧ s ≤ f ∧ f ≤ v ∧ v ≤ 1099511627776 := by
  have e8 : oneS 8 0 x = min (256 * min (x + 1) szM) szM := by unfold oneS; rw [if_neg (by decide), if_neg (by decide), if_pos rfl]
  have e9 : oneS 9 0 x = min (256 + min (65536 * min (x + 1) szM) szM) szM := by unfold oneS; rw [if_neg (by decide), if_neg (by decide), if_neg (by decide)]
  rw [e8] at hf
  rw [e9] at hv
  clear e8 e9
  have hM : szM = 1099511627776 := szM_eq
  generalize szM = M at *
  omega
theorem rep_math1 {x s : Nat} (hs : s = min (x + 1) szM) : min (oneS 7 1 x + 1) szM = s := by
  have e : oneS 7 1 x = min (1 * x) szM := by unfold oneS; rw [if_neg (by decide), if_pos rfl]; rfl
  rw [e, hs, szM_eq]; omega
theorem rep_math0 (x : Nat) : min (oneS 7 0 x + 1) szM = 1 := by
  have e : oneS 7 0 x = min (0 * x) szM := by unfold oneS; rw [if_neg (by decide), if_pos rfl]; rfl
  rw [e, szM_eq]; omega
theorem IsD.sofV {l : List Nd} {v : Value} {w : World} (h : IsD l v w) (hs : Sm l) {x : Nat} (hx : szD l = x) : Calls Try.prog 10 #[v] w (Ans w (.int .i64 (x : Int))) := hx ▸ h.sof hs
set_option maxHeartbeats 64000000 in
set_option maxRecDepth 1000000 in
theorem sizeframes_walk (l : List Nd) (A : Option Addr) (c n : Nat) (hn : n < 256) (hc1 : l.length ≤ c) (hl : l.length ≤ 9223372036854775807) (htx : Txt l) (w : World) (hrow : NRow w A l) :
    Calls Try.prog 6 #[.agg #[.slice A l.length c], .int .u8 (n : Int)] w (Ans w (.bool true)) := by
  have HB := (Below.refl w.heap.size w).alloc (Nat.le_refl _) (.cells #[.slice A l.length c] 24)
  have HS0 : Hid (FstS w A l c (w.alloc (.cells #[.slice A l.length c] 24))) := ⟨HB, hrow.later HB, Blk.new _ _ _⟩
  have HTX := Lib.hid htx
  clear hrow HB htx
  go_enter Try.func6, Try.ntmps6
  go_upto_region 1 with (fail)
  generalize w.alloc (.cells #[.slice A l.length c] 24) = w1 at *
  go_wp2_with fail
  refine (awake7_any _).mono ?_; rintro e w2 ⟨rfl, hb⟩
  have HS2 := Lib.hid (HS0.out.later hb)
  clear hb HS0
  have e0 := HS2.out.box.cell 0
  simp at e0
  have HF := Lib.hid (few_any l A c hl HTX.out _ HS2.out.row)
  cases hf : fewB l with
  | false =>
    rw [hf] at HF
    clear hf
    go_wp2_with fail
    refine HF.out.mono ?_; rintro e w3 ⟨rfl, hb⟩
    have HS3 := Lib.hid (HS2.out.later hb)
    clear hb e0 HF HS2
    go_wp2_with fail
    refine (awake7_any _).mono ?_; rintro e WN ⟨rfl, hb⟩
    have HSY := Lib.hid (HS3.out.later hb)
    clear hb
    go_wp2
    go_ret
    exact ⟨rfl, HSY.out.bel⟩
  | true =>
    rw [hf] at HF
    have L1 := Lib.hid (few_txt hf).1
    clear hf
    go_wp2_with fail
    refine HF.out.mono ?_; rintro e w3 ⟨rfl, hb⟩
    have HS3 := Lib.hid (HS2.out.later hb)
    clear hb e0 HF HS2
    have e0 := HS3.out.box.cell 0
    simp at e0
    have HF := Lib.hid (refform_any l A c (by have := L1.out; omega) HTX.out _ HS3.out.row)
    cases hf : formB l with
    | false =>
      rw [hf] at HF
      clear hf
      go_wp2_with fail
      refine HF.out.mono ?_; rintro e w4 ⟨rfl, hb⟩
      have HS4 := Lib.hid (HS3.out.later hb)
      clear hb e0 HF HS3
      go_wp2_with fail
      refine (awake7_any _).mono ?_; rintro e WN ⟨rfl, hb⟩
      have HSY := Lib.hid (HS4.out.later hb)
      clear hb
      go_wp2
      go_ret
      exact ⟨rfl, HSY.out.bel⟩
    | true =>
      rw [hf] at HF
      have hfo := (formB_iff l).1 hf
      clear hf
      have hlen := L1.out
      have HSM : Hid (Sm l) := ⟨hfo, by omega, HTX.out⟩
      have hpos := hfo.1
      clear hfo
      go_wp2_with fail
      refine HF.out.mono ?_; rintro e w4 ⟨rfl, hb⟩
      have HS4 := Lib.hid (HS3.out.later hb)
      clear hb e0 HF HS3
      have hx := szN_le l (l.length - 1)
      have C4 : Hid (∀ w', FstS w A l c w' → Calls Try.prog 18 #[.int .i64 8, .int .i64 0, .int .i64 0, .agg #[.slice A l.length c]] w' (DPost w' (wrapL 8 0 0 l))) := fun w' h => (h.isD hc1).rwrap HSM.out 8 0 0
      have C5 : Hid (∀ w', FstS w A l c w' → Calls Try.prog 18 #[.int .i64 9, .int .i64 0, .int .i64 0, .agg #[.slice A l.length c]] w' (DPost w' (wrapL 9 0 0 l))) := fun w' h => (h.isD hc1).rwrap HSM.out 9 0 0
      have C6 : Hid (∀ w', FstS w A l c w' → Calls Try.prog 18 #[.int .i64 7, .int .i64 0, .int .i64 1, .agg #[.slice A l.length c]] w' (DPost w' (wrapL 7 0 1 l))) := fun w' h => (h.isD hc1).rwrap HSM.out 7 0 1
      have C7 : Hid (∀ w', FstS w A l c w' → Calls Try.prog 18 #[.int .i64 7, .int .i64 0, .int .i64 0, .agg #[.slice A l.length c]] w' (DPost w' (wrapL 7 0 0 l))) := fun w' h => (h.isD hc1).rwrap HSM.out 7 0 0
      have M4 := Lib.hid (HSM.out.wrap (by omega) (kind := 8) (.inr (.inl rfl)))
      have M5 := Lib.hid (HSM.out.wrap (by omega) (kind := 9) (.inr (.inr rfl)))
      have M6 := Lib.hid (HSM.out.rep (by omega) (lo := 0) (hi := 1) (by decide) (by decide) (by decide))
      have M7 := Lib.hid (HSM.out.rep (by omega) (lo := 0) (hi := 0) (by decide) (by decide) (by decide))
      obtain ⟨x, hxe⟩ : ∃ x, szN l (l.length - 1) = x := ⟨_, rfl⟩
      obtain ⟨s, hse⟩ : ∃ s, szD l = s := ⟨_, rfl⟩
      obtain ⟨f, hfe⟩ : ∃ f, szD (wrapL 8 0 0 l) = f := ⟨_, rfl⟩
      obtain ⟨v, hve⟩ : ∃ v, szD (wrapL 9 0 0 l) = v := ⟨_, rfl⟩
      have e3 : s = min (x + 1) szM := hse.symm.trans (hxe ▸ szD_of l)
      have e4 : f = min (oneS 8 0 x + 1) szM := hfe.symm.trans (hxe ▸ size_wrap hpos (by decide))
      have e5 : v = min (oneS 9 0 x + 1) szM := hve.symm.trans (hxe ▸ size_wrap hpos (by decide))
      have e6 : szD (wrapL 7 0 1 l) = s := (hxe ▸ size_wrap hpos (by decide) : szD (wrapL 7 0 1 l) = min (oneS 7 1 x + 1) szM).trans (rep_math1 e3)
      have e7 : szD (wrapL 7 0 0 l) = 1 := (hxe ▸ size_wrap hpos (by decide) : szD (wrapL 7 0 0 l) = min (oneS 7 0 x + 1) szM).trans (rep_math0 x)
      rw [hxe] at hx
      obtain ⟨hm1, hm2, hm3, hm4⟩ := frames_math hx e3 e4 e5
      have C3 : Hid (∀ w', FstS w A l c w' → Calls Try.prog 10 #[.agg #[.slice A l.length c]] w' (Ans w' (.int .i64 (s : Int)))) := fun w' h => (h.isD hc1).sofV HSM.out hse
      have HO4 : Hid (∀ w' u, IsD (wrapL 8 0 0 l) u w' → Calls Try.prog 10 #[u] w' (Ans w' (.int .i64 (f : Int)))) := fun w' u h => h.sofV M4.out hfe
      have HO5 : Hid (∀ w' u, IsD (wrapL 9 0 0 l) u w' → Calls Try.prog 10 #[u] w' (Ans w' (.int .i64 (v : Int)))) := fun w' u h => h.sofV M5.out hve
      have HO6 : Hid (∀ w' u, IsD (wrapL 7 0 1 l) u w' → Calls Try.prog 10 #[u] w' (Ans w' (.int .i64 (s : Int)))) := fun w' u h => h.sofV M6.out e6
      have HO7 : Hid (∀ w' u, IsD (wrapL 7 0 0 l) u w' → Calls Try.prog 10 #[u] w' (Ans w' (.int .i64 1))) := fun w' u h => h.sofV M7.out e7
      have CB : Hid (∀ w', Calls Try.prog 14 #[.int .i64 (n : Int)] w' (Pure w' (.int .i64 ((bdN n : Nat) : Int)))) := fun w' => bound_any n (by omega) w'
      have CB1 : Hid (∀ w', Calls Try.prog 14 #[.int .i64 ((n : Int) + 1)] w' (Pure w' (.int .i64 ((bdN (n + 1) : Nat) : Int)))) := fun w' => bound_any (n + 1) (by omega) w'
      have hb1 := (bdN_le n).1
      have hb2 := (bdN_le n).2
      have hb3 := bdN_mono n
      clear e3 e4 e5 e6 e7 M4 M5 M6 M7 hfe hve hse hxe
      generalize bdN (n + 1) = z1 at *
      generalize bdN n = z at *
      have hbz1 : ¬ (z : Int) < 1 := by omega
      have hge1 : (z : Int) ≥ 1 := by omega
      have hle2 : (z : Int) ≤ 4611686018427387904 := by omega
      have hge3 : (z1 : Int) ≥ (z : Int) := by omega
      have hge4 : (f : Int) ≥ (s : Int) := by omega
      have hge5 : (v : Int) ≥ (f : Int) := by omega
      have hf5 : (f : Int) ≤ 1099511627776 := by omega
      have hs5 : (s : Int) ≤ 1099511627776 := by omega
      have hss : ((s : Int) == (s : Int)) = true := by simp
      have e0 := HS4.out.box.cell 0
      simp at e0
      clear hx
      go_wp2_with fail
      refine (C3.out _ HS4.out).mono ?_; rintro e x5 ⟨rfl, hb⟩
      have HS5 := Lib.hid (HS4.out.later hb)
      clear hb e0 HS4
      have e0 := HS5.out.box.cell 0
      simp at e0
      go_wp2_with fail
      refine (C4.out _ HS5.out).mono ?_; intro e x6 hp; obtain ⟨d0, rfl, ho, hb⟩ := hp
      have HI := Lib.hid ho.isD
      have HS6 := Lib.hid (HS5.out.later hb)
      clear hb ho e0 HS5
      go_wp2_with fail
      refine (HO4.out _ _ HI.out).mono ?_; rintro e x7 ⟨rfl, hb⟩
      have HS7 := Lib.hid (HS6.out.later hb)
      clear hb HI HS6
      have e0 := HS7.out.box.cell 0
      simp at e0
      go_wp2_with fail
      refine (C5.out _ HS7.out).mono ?_; intro e x8 hp; obtain ⟨d1, rfl, ho, hb⟩ := hp
      have HI := Lib.hid ho.isD
      have HS8 := Lib.hid (HS7.out.later hb)
      clear hb ho e0 HS7
      go_wp2_with fail
      refine (HO5.out _ _ HI.out).mono ?_; rintro e x9 ⟨rfl, hb⟩
      have HS9 := Lib.hid (HS8.out.later hb)
      clear hb HI HS8
      have e0 := HS9.out.box.cell 0
      simp at e0
      go_wp2_with fail
      refine (C6.out _ HS9.out).mono ?_; intro e x10 hp; obtain ⟨d2, rfl, ho, hb⟩ := hp
      have HI := Lib.hid ho.isD
      have HS10 := Lib.hid (HS9.out.later hb)
      clear hb ho e0 HS9
      go_wp2_with fail
      refine (HO6.out _ _ HI.out).mono ?_; rintro e x11 ⟨rfl, hb⟩
      have HS11 := Lib.hid (HS10.out.later hb)
      clear hb HI HS10
      have e0 := HS11.out.box.cell 0
      simp at e0
      go_wp2_with fail
      refine (C7.out _ HS11.out).mono ?_; intro e x12 hp; obtain ⟨d3, rfl, ho, hb⟩ := hp
      have HI := Lib.hid ho.isD
      have HS12 := Lib.hid (HS11.out.later hb)
      clear hb ho e0 HS11
      go_wp2_with fail
      refine (HO7.out _ _ HI.out).mono ?_; rintro e x13 ⟨rfl, hb⟩
      have HS13 := Lib.hid (HS12.out.later hb)
      clear hb HI HS12
      have e0 := HS13.out.box.cell 0
      simp at e0
      clear C3 C4 C5 C6 C7 HO4 HO5 HO6 HO7
      by_cases hsm : s < 1099511627776
      · obtain ⟨hq1, hq2⟩ := hm1 hsm
        have hsz : (s : Int) < 1099511627776 := by omega
        clear hm1 hm2 hm3 hm4 hb1 hb2 hb3
        go_wp2_with fail
        refine (CB.out _).mono ?_; rintro e xx ⟨rfl, rfl⟩
        go_wp2_with fail
        refine (CB1.out _).mono ?_; rintro e xx ⟨rfl, rfl⟩
        go_wp2
        go_ret
        exact ⟨rfl, HS13.out.bel⟩
      · have hsz : ¬ (1099511627776 : Int) < 1099511627776 := by omega
        obtain rfl : s = 1099511627776 := by omega
        obtain rfl : f = 1099511627776 := by omega
        obtain rfl : v = 1099511627776 := by omega
        clear hm1 hm2 hm3 hm4 hb1 hb2 hb3 hge4 hge5 hf5 hs5 hss hsm
        go_wp2_with fail
        refine (CB.out _).mono ?_; rintro e xx ⟨rfl, rfl⟩
        go_wp2_with fail
        refine (CB1.out _).mono ?_; rintro e xx ⟨rfl, rfl⟩
        go_wp2
        go_ret
        exact ⟨rfl, HS13.out.bel⟩
end Go.Proofs.Ytnjkljjeldnblaa
/- The statement SizeBounds of layer 7, walked. -/
namespace Go.Proofs.Ytnjkljjeldnblaa
open Go Go.RowKit
set_option linter.unusedVariables false
set_option linter.unusedSimpArgs false

structure BoS (w0 : World) (A : Option Addr) (l : List Nd) (c bx : Nat) (n : Nd) (w : World) : Prop where
  s : FstS w0 A l c w
  who : Blk w bx (ndC n) 36
theorem BoS.later {w0 w w' : World} {A : Option Addr} {l : List Nd} {c bx : Nat} {n : Nd} (h : BoS w0 A l c bx n w) (hb : Below w.heap.size w w') : BoS w0 A l c bx n w' := ⟨h.s.later hb, h.who.later hb⟩
theorem oneS_hi {k hi : Int} (h : k ≠ 7) (x : Nat) : oneS k hi x = oneS k ((0 : Nat) : Int) x := by
  unfold oneS; rw [if_neg h, if_neg h]
theorem one_math {k : Int} {h x s : Nat} (hk : k = 6 ∨ k = 7 ∨ k = 8 ∨ k = 9) (hx : x ≤ szM) (hs : s = oneS k (h : Int) x) :
    (k = 7 → h = 0 → s = 0) ∧ (k = 7 ∧ h = 0 ∨ x ≤ s) ∧ (k = 8 → x < s ∨ x = 1099511627776) := by
  have hM : szM = 1099511627776 := szM_eq
  unfold oneS at hs
  rcases hk with rfl | rfl | rfl | rfl
  · rw [if_pos rfl] at hs
    generalize szM = M at *
    omega
  · rw [if_neg (by decide), if_pos rfl, Int.toNat_natCast] at hs
    generalize szM = M at *
    refine ⟨fun _ e => by subst e; rw [Nat.zero_mul] at hs; omega, ?_, fun e => by omega⟩
    rcases Nat.eq_zero_or_pos h with e | e
    · exact .inl ⟨rfl, e⟩
    · right
      have : 1 * x ≤ h * x := Nat.mul_le_mul_right _ e
      rw [Nat.one_mul] at this
      generalize h * x = y at *
      omega
  · rw [if_neg (by decide), if_neg (by decide), if_pos rfl] at hs
    generalize szM = M at *
    omega
  · rw [if_neg (by decide), if_neg (by decide), if_neg (by decide)] at hs
    generalize szM = M at *
    omega

set_option maxHeartbeats 64000000 in
set_option maxRecDepth 1000000 in
theorem sizebounds_walk (l : List Nd) (A : Option Addr) (c q : Nat) (hq : q < 65536) (hc1 : l.length ≤ c) (hl : l.length ≤ 9223372036854775807) (htx : Txt l) (w : World) (hrow : NRow w A l) :
    Calls Try.prog 4 #[.agg #[.slice A l.length c], .int .u16 (q : Int)] w (Ans w (.bool true)) := by
  have HB := (Below.refl w.heap.size w).alloc (Nat.le_refl _) (.cells #[.slice A l.length c] 24)
  have HS0 : Hid (FstS w A l c (w.alloc (.cells #[.slice A l.length c] 24))) := ⟨HB, hrow.later HB, Blk.new _ _ _⟩
  have HTX := Lib.hid htx
  clear hrow HB htx
  go_enter Try.func4, Try.ntmps4
  go_upto_region 1 with (fail)
  generalize w.alloc (.cells #[.slice A l.length c] 24) = w1 at *
  go_wp2_with fail
  refine (awake7_any _).mono ?_; rintro e w2 ⟨rfl, hb⟩
  have HS2 := Lib.hid (HS0.out.later hb)
  clear hb HS0
  have e0 := HS2.out.box.cell 0
  simp at e0
  have HF := Lib.hid (few_any l A c hl HTX.out _ HS2.out.row)
  cases hf : fewB l with
  | false =>
    rw [hf] at HF
    clear hf
    go_wp2_with fail
    refine HF.out.mono ?_; rintro e w3 ⟨rfl, hb⟩
    have HS3 := Lib.hid (HS2.out.later hb)
    clear hb e0 HF HS2
    go_wp2_with fail
    refine (awake7_any _).mono ?_; rintro e WN ⟨rfl, hb⟩
    have HSY := Lib.hid (HS3.out.later hb)
    clear hb
    go_wp2
    go_ret
    exact ⟨rfl, HSY.out.bel⟩
  | true =>
    rw [hf] at HF
    have L1 := Lib.hid (few_txt hf).1
    clear hf
    go_wp2_with fail
    refine HF.out.mono ?_; rintro e w3 ⟨rfl, hb⟩
    have HS3 := Lib.hid (HS2.out.later hb)
    clear hb e0 HF HS2
    have e0 := HS3.out.box.cell 0
    simp at e0
    have HF := Lib.hid (refform_any l A c (by have := L1.out; omega) HTX.out _ HS3.out.row)
    cases hf : formB l with
    | false =>
      rw [hf] at HF
      clear hf
      go_wp2_with fail
      refine HF.out.mono ?_; rintro e w4 ⟨rfl, hb⟩
      have HS4 := Lib.hid (HS3.out.later hb)
      clear hb e0 HF HS3
      go_wp2_with fail
      refine (awake7_any _).mono ?_; rintro e WN ⟨rfl, hb⟩
      have HSY := Lib.hid (HS4.out.later hb)
      clear hb
      go_wp2
      go_ret
      exact ⟨rfl, HSY.out.bel⟩
    | true =>
      rw [hf] at HF
      have hfo := (formB_iff l).1 hf
      clear hf
      have hlen := L1.out
      have HSM : Hid (Sm l) := ⟨hfo, by omega, HTX.out⟩
      have hpos := hfo.1
      clear hfo
      go_wp2_with fail
      refine HF.out.mono ?_; rintro e w4 ⟨rfl, hb⟩
      have HS4 := Lib.hid (HS3.out.later hb)
      clear hb e0 HF HS3
      have e0 := HS4.out.box.cell 0
      simp at e0
      have hposz : (0 : Int) < (l.length : Int) := by omega
      have hne : ((l.length : Int) == 0) = false := by rw [beq_eq_false_iff_ne]; omega
      have hmod : (q : Int) % (l.length : Int) = ((q % l.length : Nat) : Int) := by omega
      have hil : q % l.length < l.length := Nat.mod_lt _ hpos
      go_upto_region 4 with (fail)
      generalize hii : q % l.length = i at *
      rw [hmod]
      clear hii hmod hne hposz e0
      obtain ⟨ba, oa, rfl, -, -⟩ := HS4.out.row i hil
      have g : At10 w4 ba (oa + i * 10) (l.getD i nd0) := HS4.out.row.at hil rfl
      have hok := HSM.out.form.2.1 i hil
      have hcs := hok.cs rfl
      have hk9 := hok.kind9
      have hsub := size_sub hil (HSM.out.form.okTo hil)
      have MS := Lib.hid (HSM.out.sub hil)
      obtain ⟨s, hse⟩ : ∃ s, szN l i = s := ⟨_, rfl⟩
      have hs5 := szN_le l i
      rw [hse] at hs5 hsub
      obtain ⟨t, hte⟩ : ∃ t, szD (subL l i) = t := ⟨_, rfl⟩
      have ht : min ((s : Int) + 1) 1099511627776 = (t : Int) := by rw [← hte, hsub, ← capV]; rfl
      have CS : Hid (∀ w', FstS w (some ⟨ba, oa, none⟩) l c w' → Calls Try.prog 16 #[.agg #[.slice (some ⟨ba, oa, none⟩) l.length c], .int .i64 (i : Int)] w' (DPost w' (subL l i))) := fun w' h => (h.isD hc1).rsub HSM.out hil
      have HOs : Hid (∀ w' u, IsD (subL l i) u w' → Calls Try.prog 10 #[u] w' (Ans w' (.int .i64 (t : Int)))) := fun w' u h => h.sofV MS.out hte
      have CN : Hid (∀ w', FstS w (some ⟨ba, oa, none⟩) l c w' → Calls Try.prog 12 #[.agg #[.slice (some ⟨ba, oa, none⟩) l.length c], .int .i64 (i : Int)] w' (Ans w' (.int .i64 (s : Int)))) := fun w' h => hse ▸ (h.isD hc1).snode HSM.out hil
      have HSE := Lib.hid hse
      have hn : atN l i = l.getD i nd0 := rfl
      rw [hn] at hcs hk9
      clear hsub hte MS hok hse
      have HN := Lib.hid hn
      clear hn
      generalize l.getD i nd0 = n at *
      obtain ⟨kk, na, nb, nlo, nhi, ncls, ntext⟩ := n
      have HCS := Lib.hid hcs
      clear hcs
      unfold At10 at g
      simp only at g hk9
      obtain ⟨g0, g1, g2, g3, g4, g5, g6, g7, g8, g9⟩ := g
      have e0 := HS4.out.box.cell 0
      simp at e0
      have hiz : (i : Int) < (l.length : Int) := by omega
      have hs0 : ¬ (s : Int) < 0 := by omega
      have hs6 : ¬ (s : Int) > 1099511627776 := by rw [szM_eq] at hs5; omega
      have hs0d : decide ((s : Int) < 0) = false := decide_eq_false hs0
      have hs6d : decide ((s : Int) > 1099511627776) = false := decide_eq_false hs6
      rw [szM_eq] at hs5
      go_upto_region 5 with (fail)
      clear g0 g1 g2 g3 g4 g5 g6 g7 g8 g9 e0
      have HS5 : Hid (BoS w (some ⟨ba, oa, none⟩) l c w4.heap.size ⟨kk, na, nb, nlo, nhi, ncls, ntext⟩ (w4.alloc (.cells #[.int .i64 kk, .int .i64 na, .int .i64 nb, .int .i64 nlo, .int .i64 nhi, .int .u64 (wd ncls 0), .int .u64 (wd ncls 1), .int .u64 (wd ncls 2), .int .u64 (wd ncls 3), .string (bs ntext)] 36))) := ⟨HS4.out.later ((Below.refl _ _).alloc (Nat.le_refl _) _), Blk.new _ _ _⟩
      generalize w4.alloc (.cells #[.int .i64 kk, .int .i64 na, .int .i64 nb, .int .i64 nlo, .int .i64 nhi, .int .u64 (wd ncls 0), .int .u64 (wd ncls 1), .int .u64 (wd ncls 2), .int .u64 (wd ncls 3), .string (bs ntext)] 36) = w5 at *
      generalize w4.heap.size = bx at *
      have e0 := HS5.out.s.box.cell 0
      simp at e0
      go_wp2_with fail
      refine (CN.out _ HS5.out.s).mono ?_; rintro e w6 ⟨rfl, hb⟩
      have HS6 := Lib.hid (HS5.out.later hb)
      clear hb e0 HS5 HS4
      have e0 := HS6.out.s.box.cell 0
      simp at e0
      go_wp2_with fail
      refine (CS.out _ HS6.out.s).mono ?_; intro e w7 hp; obtain ⟨d1, rfl, ho, hb⟩ := hp
      have HI := Lib.hid ho.isD
      have HS7 := Lib.hid (HS6.out.later hb)
      clear hb ho e0 HS6
      go_wp2_with fail
      refine (HOs.out _ _ HI.out).mono ?_; rintro e w8 ⟨rfl, hb⟩
      have HS8 := Lib.hid (HS7.out.later hb)
      clear hb HI HS7 CS HOs CN
      have htt : ((t : Int) != (t : Int)) = false := by simp
      go_upto_region 8 with (fail)
      clear htt ht hs0 hs6 hs0d hs6d
      have e0 := HS8.out.s.box.cell 0
      simp at e0
      obtain ⟨f0, f1, f2, f3, f4, f5, f6, f7, f8, f9⟩ := ten_cells HS8.out.who
      cases HCS.out with
      | leaf hk hf =>
        unfold leafK at hk
        simp only at hk
        clear hf
        rcases hk with rfl | rfl | rfl
        ·
          go_wp2
          go_ret
          exact ⟨rfl, HS8.out.s.bel⟩
        ·
          go_wp2
          go_ret
          exact ⟨rfl, HS8.out.s.bel⟩
        ·
          go_wp2
          go_ret
          exact ⟨rfl, HS8.out.s.bel⟩
      | one hk hi0 ha hb h7 hr hc hf =>
        simp only at hk ha hr
        clear hf hb h7 hc
        have hi1 : i - 1 < l.length := by omega
        obtain ⟨x, hxe⟩ : ∃ x, szN l (i - 1) = x := ⟨_, rfl⟩
        have hx := szN_le l (i - 1)
        rw [hxe] at hx
        have hsz := szN_one (l := l) hi0 (by rw [HN.out]; exact hk) (by rw [HN.out]; exact ha)
        rw [HN.out, HSE.out, hxe] at hsz
        simp only at hsz
        have CA : Hid (∀ w', FstS w (some ⟨ba, oa, none⟩) l c w' → Calls Try.prog 12 #[.agg #[.slice (some ⟨ba, oa, none⟩) l.length c], .int .i64 na] w' (Ans w' (.int .i64 (x : Int)))) := fun w' h => by
          have := (h.isD hc1).snode HSM.out hi1
          rw [hxe] at this
          rwa [show ((i - 1 : Nat) : Int) = na by omega] at this
        clear hxe ha
        have hkk : kk = 6 ∨ kk = 7 ∨ kk = 8 ∨ kk = 9 := by omega
        clear hk
        rcases hkk with rfl | rfl | rfl | rfl
        · obtain ⟨-, hm, -⟩ := one_math (k := 6) (h := 0) (.inl rfl) hx (hsz.trans (oneS_hi (by decide) x))
          have hge : (s : Int) ≥ (x : Int) := by omega
          have hged : decide ((s : Int) ≥ (x : Int)) = true := decide_eq_true hge
          clear hsz hm hr
          go_wp2_with fail
          refine (CA.out _ HS8.out.s).mono ?_; rintro e x9 ⟨rfl, hb⟩
          have HS9 := Lib.hid (HS8.out.later hb)
          clear hb e0 f0 f1 f2 f3 f4 f5 f6 f7 f8 f9
          have e0 := HS9.out.s.box.cell 0
          simp at e0
          obtain ⟨f0, f1, f2, f3, f4, f5, f6, f7, f8, f9⟩ := ten_cells HS9.out.who
          go_wp2
          go_ret
          exact ⟨rfl, HS9.out.s.bel⟩
        · have hr7 := hr rfl
          clear hr
          obtain ⟨h, rfl⟩ : ∃ h : Nat, nhi = (h : Int) := ⟨nhi.toNat, by omega⟩
          obtain ⟨hm0, hm, -⟩ := one_math (k := 7) (h := h) (.inr (.inl rfl)) hx hsz
          rw [szM_eq] at hx
          clear hsz
          by_cases hh : h = 0
          · subst hh
            obtain rfl : s = 0 := hm0 rfl rfl
            clear hm hm0
            go_wp2_with fail
            refine (CA.out _ HS8.out.s).mono ?_; rintro e x9 ⟨rfl, hb⟩
            have HS9 := Lib.hid (HS8.out.later hb)
            clear hb e0 f0 f1 f2 f3 f4 f5 f6 f7 f8 f9
            have e0 := HS9.out.s.box.cell 0
            simp at e0
            obtain ⟨f0, f1, f2, f3, f4, f5, f6, f7, f8, f9⟩ := ten_cells HS9.out.who
            go_wp2
            go_ret
            exact ⟨rfl, HS9.out.s.bel⟩
          · have hge : (s : Int) ≥ (x : Int) := by omega
            have hged : decide ((s : Int) ≥ (x : Int)) = true := decide_eq_true hge
            have hhz : ((h : Int) == 0) = false := by rw [beq_eq_false_iff_ne]; omega
            clear hm hm0 hh
            go_wp2_with fail
            refine (CA.out _ HS8.out.s).mono ?_; rintro e x9 ⟨rfl, hb⟩
            have HS9 := Lib.hid (HS8.out.later hb)
            clear hb e0 f0 f1 f2 f3 f4 f5 f6 f7 f8 f9
            have e0 := HS9.out.s.box.cell 0
            simp at e0
            obtain ⟨f0, f1, f2, f3, f4, f5, f6, f7, f8, f9⟩ := ten_cells HS9.out.who
            go_wp2
            go_ret
            exact ⟨rfl, HS9.out.s.bel⟩
        · obtain ⟨-, hm, hm8⟩ := one_math (k := 8) (h := 0) (.inr (.inr (.inl rfl))) hx (hsz.trans (oneS_hi (by decide) x))
          have hge : (s : Int) ≥ (x : Int) := by omega
          have hged : decide ((s : Int) ≥ (x : Int)) = true := decide_eq_true hge
          have hm9 := hm8 rfl
          clear hsz hm hr hm8
          by_cases hgt : x < s
          · have hgtz : (s : Int) > (x : Int) := by omega
            have hgtd : decide ((s : Int) > (x : Int)) = true := decide_eq_true hgtz
            clear hm9 hgt
            go_wp2_with fail
            refine (CA.out _ HS8.out.s).mono ?_; rintro e x9 ⟨rfl, hb⟩
            have HS9 := Lib.hid (HS8.out.later hb)
            clear hb e0 f0 f1 f2 f3 f4 f5 f6 f7 f8 f9
            have e0 := HS9.out.s.box.cell 0
            simp at e0
            obtain ⟨f0, f1, f2, f3, f4, f5, f6, f7, f8, f9⟩ := ten_cells HS9.out.who
            go_wp2
            go_ret
            exact ⟨rfl, HS9.out.s.bel⟩
          · obtain rfl : x = 1099511627776 := by omega
            obtain rfl : s = 1099511627776 := by omega
            clear hm9 hgt hge hged
            go_wp2_with fail
            refine (CA.out _ HS8.out.s).mono ?_; rintro e x9 ⟨rfl, hb⟩
            have HS9 := Lib.hid (HS8.out.later hb)
            clear hb e0 f0 f1 f2 f3 f4 f5 f6 f7 f8 f9
            have e0 := HS9.out.s.box.cell 0
            simp at e0
            obtain ⟨f0, f1, f2, f3, f4, f5, f6, f7, f8, f9⟩ := ten_cells HS9.out.who
            go_wp2
            go_ret
            exact ⟨rfl, HS9.out.s.bel⟩
        · obtain ⟨-, hm, -⟩ := one_math (k := 9) (h := 0) (.inr (.inr (.inr rfl))) hx (hsz.trans (oneS_hi (by decide) x))
          have hge : (s : Int) ≥ (x : Int) := by omega
          have hged : decide ((s : Int) ≥ (x : Int)) = true := decide_eq_true hge
          clear hsz hm hr
          go_wp2_with fail
          refine (CA.out _ HS8.out.s).mono ?_; rintro e x9 ⟨rfl, hb⟩
          have HS9 := Lib.hid (HS8.out.later hb)
          clear hb e0 f0 f1 f2 f3 f4 f5 f6 f7 f8 f9
          have e0 := HS9.out.s.box.cell 0
          simp at e0
          obtain ⟨f0, f1, f2, f3, f4, f5, f6, f7, f8, f9⟩ := ten_cells HS9.out.who
          go_wp2
          go_ret
          exact ⟨rfl, HS9.out.s.bel⟩
      | two hk hi0 hb ha hf0 hl2 hc hf =>
        simp only at hk ha hb
        clear hl2 hc hf
        have hi1 : i - 1 < l.length := by omega
        have hfl := firstP_le l (i - 1)
        obtain ⟨p, hp⟩ : ∃ p, firstP l (i - 1) = p + 1 := ⟨firstP l (i - 1) - 1, by omega⟩
        rw [hp] at ha hfl hf0
        have hpl : p < l.length := by omega
        obtain ⟨x, hxe⟩ : ∃ x, szN l (i - 1) = x := ⟨_, rfl⟩
        obtain ⟨y, hye⟩ : ∃ y, szN l p = y := ⟨_, rfl⟩
        have hx := szN_le l (i - 1)
        have hy := szN_le l p
        rw [hxe] at hx
        rw [hye] at hy
        have hsz := szN_two (l := l) (p := p) hi0 (by rw [HN.out]; exact hk) (by rw [HN.out]; show na = _; omega) (by omega) (by rw [HN.out]; exact hb)
        rw [HSE.out, hxe, hye] at hsz
        have CA : Hid (∀ w', FstS w (some ⟨ba, oa, none⟩) l c w' → Calls Try.prog 12 #[.agg #[.slice (some ⟨ba, oa, none⟩) l.length c], .int .i64 na] w' (Ans w' (.int .i64 (y : Int)))) := fun w' h => by
          have := (h.isD hc1).snode HSM.out hpl
          rw [hye] at this
          rwa [show ((p : Nat) : Int) = na by omega] at this
        have CC : Hid (∀ w', FstS w (some ⟨ba, oa, none⟩) l c w' → Calls Try.prog 12 #[.agg #[.slice (some ⟨ba, oa, none⟩) l.length c], .int .i64 nb] w' (Ans w' (.int .i64 (x : Int)))) := fun w' h => by
          have := (h.isD hc1).snode HSM.out hi1
          rw [hxe] at this
          rwa [show ((i - 1 : Nat) : Int) = nb by omega] at this
        rw [szM_eq] at hsz hx hy
        have hge : (s : Int) ≥ (x : Int) := by omega
        have hged : decide ((s : Int) ≥ (x : Int)) = true := decide_eq_true hge
        have hgy : (s : Int) ≥ (y : Int) := by omega
        have hgyd : decide ((s : Int) ≥ (y : Int)) = true := decide_eq_true hgy
        clear hxe hye ha hb hp hfl hf0
        by_cases hsm : s = y + x
        · have hsb : ((s : Int) == (y : Int) + (x : Int)) = true := by rw [beq_iff_eq]; omega
          clear hsm hsz
          rcases hk with rfl | rfl
          ·
            go_wp2_with fail
            refine (CA.out _ HS8.out.s).mono ?_; rintro e x9 ⟨rfl, hb⟩
            have HS9 := Lib.hid (HS8.out.later hb)
            clear hb e0 f0 f1 f2 f3 f4 f5 f6 f7 f8 f9
            have e0 := HS9.out.s.box.cell 0
            simp at e0
            obtain ⟨f0, f1, f2, f3, f4, f5, f6, f7, f8, f9⟩ := ten_cells HS9.out.who
            go_wp2_with fail
            refine (CC.out _ HS9.out.s).mono ?_; rintro e x10 ⟨rfl, hb⟩
            have HS10 := Lib.hid (HS9.out.later hb)
            clear hb
            go_wp2
            go_ret
            exact ⟨rfl, HS10.out.s.bel⟩
          ·
            go_wp2_with fail
            refine (CA.out _ HS8.out.s).mono ?_; rintro e x9 ⟨rfl, hb⟩
            have HS9 := Lib.hid (HS8.out.later hb)
            clear hb e0 f0 f1 f2 f3 f4 f5 f6 f7 f8 f9
            have e0 := HS9.out.s.box.cell 0
            simp at e0
            obtain ⟨f0, f1, f2, f3, f4, f5, f6, f7, f8, f9⟩ := ten_cells HS9.out.who
            go_wp2_with fail
            refine (CC.out _ HS9.out.s).mono ?_; rintro e x10 ⟨rfl, hb⟩
            have HS10 := Lib.hid (HS9.out.later hb)
            clear hb
            go_wp2
            go_ret
            exact ⟨rfl, HS10.out.s.bel⟩
        · obtain rfl : s = 1099511627776 := by omega
          have hsb : ((1099511627776 : Int) == (y : Int) + (x : Int)) = false := by rw [beq_eq_false_iff_ne]; omega
          clear hsm hsz
          rcases hk with rfl | rfl
          ·
            go_wp2_with fail
            refine (CA.out _ HS8.out.s).mono ?_; rintro e x9 ⟨rfl, hb⟩
            have HS9 := Lib.hid (HS8.out.later hb)
            clear hb e0 f0 f1 f2 f3 f4 f5 f6 f7 f8 f9
            have e0 := HS9.out.s.box.cell 0
            simp at e0
            obtain ⟨f0, f1, f2, f3, f4, f5, f6, f7, f8, f9⟩ := ten_cells HS9.out.who
            go_wp2_with fail
            refine (CC.out _ HS9.out.s).mono ?_; rintro e x10 ⟨rfl, hb⟩
            have HS10 := Lib.hid (HS9.out.later hb)
            clear hb
            go_wp2
            go_ret
            exact ⟨rfl, HS10.out.s.bel⟩
          ·
            go_wp2_with fail
            refine (CA.out _ HS8.out.s).mono ?_; rintro e x9 ⟨rfl, hb⟩
            have HS9 := Lib.hid (HS8.out.later hb)
            clear hb e0 f0 f1 f2 f3 f4 f5 f6 f7 f8 f9
            have e0 := HS9.out.s.box.cell 0
            simp at e0
            obtain ⟨f0, f1, f2, f3, f4, f5, f6, f7, f8, f9⟩ := ten_cells HS9.out.who
            go_wp2_with fail
            refine (CC.out _ HS9.out.s).mono ?_; rintro e x10 ⟨rfl, hb⟩
            have HS10 := Lib.hid (HS9.out.later hb)
            clear hb
            go_wp2
            go_ret
            exact ⟨rfl, HS10.out.s.bel⟩
end Go.Proofs.Ytnjkljjeldnblaa
