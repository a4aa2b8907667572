/- The parser's inside: walked. -/
import Derived.Test.YtcgjmnhmhiddkaaDoorM27
namespace Go.Proofs.YtcgjmnhmhiddkaaDoor
open Go Go.RowKit
set_option linter.unusedVariables false
set_option linter.unusedSimpArgs false

theorem mvOkZ {n : Nd} (ht : n.text.length ≤ 281474976710656) (ha : n.a = 0) (hb : n.b = 0) : MvOk 0 n :=
  ⟨ht, fun _ => by rw [ha]; rfl, fun _ => by rw [hb]; rfl⟩
set_option maxHeartbeats 8000000 in
set_option maxRecDepth 100000 in
theorem inside_step {l : List Tk} {n : Nat} (IH : ∀ k, k ≤ n → RunC l k) {s : PS} (hi : Inv s) (hne : run l (n + 1) .inside s ≠ .out) : CallM 82 l s (run l (n + 1) .inside s) := by
  intro w B pb A cp hP
  have HT := Lib.hid hP.token
  have HP := Lib.hid hP
  have hbs := hP.heap
  obtain ⟨x, hx⟩ : ∃ x, tkAt l s.read = x := ⟨_, rfl⟩
  rw [hx] at HT
  unfold tkC at HT
  by_cases h4 : x.kind = 4
  · have e4 : (x.kind == 4) = true := by rw [h4]; rfl
    have hr : run l (n + 1) .inside s = layK s { kind := 1 } (-1) := by simp only [run]; rw [hx, if_pos h4]
    rw [hr]
    have HF : Hid (∀ w', Pst w' B pb A cp l s → Calls Tryd.prog 76 #[.pointer (some ⟨pb, 0, none⟩), .agg #[.int .i64 1, .int .i64 0, .int .i64 0, .int .i64 0, .int .i64 0, .int .u64 0, .int .u64 0, .int .u64 0, .int .u64 0, .string ⟨#[]⟩]] w' (RunPost B pb A cp l w' (layK s { kind := 1 } (-1)))) := fun w' h => by
      have q := h.leaf (by have := hi.1; omega) hi.2 { kind := 1 } (mvOkZ (by simp) rfl rfl)
      rw [ndC_zero] at q; exact q
    clear hr hne IH hx h4 hP hi
    go_enter Tryd.func82, Tryd.ntmps82
    go_wp2_with fail
    refine HT.out.mono ?_; rintro e2 w2 ⟨rfl, hb2⟩
    have hf0 := field_tok0 x.kind x.at_ x.lo x.hi (wd x.cls 0) (wd x.cls 1) (wd x.cls 2) (wd x.cls 3) (bs x.text) w2
    have HP2 := Lib.hid (HP.out.later hb2)
    have HB2 := Lib.hid (Fr.of hb2 hbs)
    clear hb2 HT HP
    go_wp2_with fail
    refine (HF.out w2 HP2.out).mono ?_; intro e3 w3 hq
    obtain ⟨rfl, hP3, hb3⟩ := hq
    have HP3 := Lib.hid hP3
    have HB3 := Lib.hid (HB2.out.trans hb3)
    clear hP3 hb3 HF HP2 HB2
    go_wp2
    exact bodyPost_ret (v := .int .i64 (s.count : Int)) (by simp [results, Tryd.results82, go_sem]) rfl ⟨rfl, HP3.out, HB3.out⟩
  · have e4 : (x.kind == 4) = false := beq_false_of_ne h4
    have hr : run l (n + 1) .inside s = run l n .or s := by simp only [run]; rw [hx, if_neg h4]
    rw [hr] at hne ⊢
    have HF : Hid (∀ w', Pst w' B pb A cp l s → Calls Tryd.prog 27 #[.pointer (some ⟨pb, 0, none⟩)] w' (RunPost B pb A cp l w' (run l n .or s))) := fun w' h => IH n (Nat.le_refl _) .or _ s rfl hi hne w' B pb A cp h
    clear IH hx h4 hP hi hr
    have HN := Lib.hid hne
    clear hne
    generalize run l n .or s = r at *
    go_enter Tryd.func82, Tryd.ntmps82
    go_wp2_with fail
    refine HT.out.mono ?_; rintro e2 w2 ⟨rfl, hb2⟩
    have hf0 := field_tok0 x.kind x.at_ x.lo x.hi (wd x.cls 0) (wd x.cls 1) (wd x.cls 2) (wd x.cls 3) (bs x.text) w2
    have HP2 := Lib.hid (HP.out.later hb2)
    have HB2 := Lib.hid (Fr.of hb2 hbs)
    clear hb2 HT HP
    go_wp2_with fail
    refine (HF.out w2 HP2.out).mono ?_; intro e3 w3 hq
    cases r with
    | out => exact absurd hq id
    | bad e p =>
      obtain ⟨rfl, hb3⟩ := hq
      have HB3 := Lib.hid (HB2.out.trans hb3)
      clear hb3 HF HP2 HB2 HN
      go_wp2
      exact ⟨rfl, (by assumption : ftE e p = _).symm, HB3.out⟩
    | ok a u =>
      obtain ⟨rfl, hP3, hb3⟩ := hq
      have HP3 := Lib.hid hP3
      have HB3 := Lib.hid (HB2.out.trans hb3)
      clear hP3 hb3 HF HP2 HB2 HN
      go_wp2
      exact bodyPost_ret (v := .int .i64 a) (by simp [results, Tryd.results82, go_sem]) rfl ⟨rfl, HP3.out, HB3.out⟩
end Go.Proofs.YtcgjmnhmhiddkaaDoor
/- The parser's atom: walked. -/
namespace Go.Proofs.YtcgjmnhmhiddkaaDoor
open Go Go.RowKit
set_option linter.unusedVariables false
set_option linter.unusedSimpArgs false

theorem ndC_cls (k : Int) (c : BitVec 256) : ndC { kind := k, cls := c } = #[.int .i64 k, .int .i64 0, .int .i64 0, .int .i64 0, .int .i64 0, .int .u64 (wd c 0), .int .u64 (wd c 1), .int .u64 (wd c 2), .int .u64 (wd c 3), .string ⟨#[]⟩] := rfl
section
variable {w : World} {B pb : Nat} {A : Option Addr} {cp : Nat} {l : List Tk} {s : PS} {ov nv av : Value}
set_option maxHeartbeats 8000000 in
set_option maxRecDepth 100000 in
theorem atom_bytes (hP : Pst w B pb A cp l s) (hi : Inv s) {x : Tk} (hx : tkAt l s.read = x) (h1 : x.kind = 1) (hread : s.read < 16777216) :
    Calls Tryd.prog 69 #[.pointer (some ⟨pb, 0, none⟩)] w (RunPost B pb A cp l w (layK s.next { kind := 2, cls := x.cls } (-1))) := by
  have HF : Hid (∀ w', Pst w' B pb A cp l s.next → Calls Tryd.prog 76 #[.pointer (some ⟨pb, 0, none⟩), .agg #[.int .i64 2, .int .i64 0, .int .i64 0, .int .i64 0, .int .i64 0, .int .u64 (wd x.cls 0), .int .u64 (wd x.cls 1), .int .u64 (wd x.cls 2), .int .u64 (wd x.cls 3), .string ⟨#[]⟩]] w' (RunPost B pb A cp l w' (layK s.next { kind := 2, cls := x.cls } (-1)))) := fun w' h => by
    have q := h.leaf (by have := hi.next.1; omega) hi.next.2 { kind := 2, cls := x.cls } (mvOkZ (by simp) rfl rfl)
    rw [ndC_cls] at q; exact q
  have e1 : (x.kind == 1) = true := by rw [h1]; rfl
  clear hi h1
  have HT := Lib.hid hP.token
  have HP := Lib.hid hP
  have hbs := hP.heap
  rw [hx] at HT
  unfold tkC at HT
  clear hP
  go_enter Tryd.func69, Tryd.ntmps69
  go_wp2_with fail
  refine HT.out.mono ?_; rintro e2 w2 ⟨rfl, hb2⟩
  have HP2 := Lib.hid (HP.out.later hb2)
  have HB2 := Lib.hid (Fr.of hb2 hbs)
  clear hb2 HT HP
  have hk9 := Lib.hid (Blk.new w2 (tkC x) 61)
  have hb9 := Lib.hid ((Below.refl w2.heap.size w2).alloc (Nat.le_refl _) (.cells (tkC x) 61))
  unfold tkC at hk9 hb9
  go_upto_region 2 with (fail)
  generalize w2.alloc (.cells #[.int .i64 x.kind, .int .i64 x.at_, .int .u64 (wd x.cls 0), .int .u64 (wd x.cls 1), .int .u64 (wd x.cls 2), .int .u64 (wd x.cls 3), .string (bs x.text), .int .i64 x.lo, .int .i64 x.hi] 61) = w3 at *
  have HP3 := Lib.hid (HP2.out.later hb9.out)
  have HB3 := Lib.hid (HB2.out.trans (Fr.of hb9.out HP2.out.heap))
  clear HP2 HB2 hb9
  generalize w2.heap.size = tb at *
  obtain ⟨t0, -, -, -, -, -, -, -, -⟩ := nine_cells hk9.out
  have c1 := HP3.out.cell1
  have fz := HP3.out.frozen 1
  have hw := wrap_of (by omega : (s.read : Int) + 1 ≤ 1073741824) (by omega : (0 : Int) ≤ (s.read : Int) + 1)
  have HP4 := Lib.hid (HP3.out.next hread)
  have HB4 := Lib.hid (HB3.out.setP HP3.out 1 (.int .i64 ((s.read : Int) + 1)))
  have HK4 : Hid (Blk (w3.setCell ⟨pb, 1, none⟩ (.int .i64 ((s.read : Int) + 1))) tb #[.int .i64 x.kind, .int .i64 x.at_, .int .u64 (wd x.cls 0), .int .u64 (wd x.cls 1), .int .u64 (wd x.cls 2), .int .u64 (wd x.cls 3), .string (bs x.text), .int .i64 x.lo, .int .i64 x.hi] 61) := by
    obtain ⟨o1, o2, o3, h0⟩ := HP3.out
    exact hk9.out.setCell_ne (a := ⟨pb, 1, none⟩) (Blk.typed2 h0.blk hk9.out (by decide)) (.int .i64 ((s.read : Int) + 1))
  clear HP3 HB3
  go_upto_region 5 with (fail)
  generalize w3.setCell ⟨pb, 1, none⟩ (.int .i64 ((s.read : Int) + 1)) = w4 at *
  clear t0 c1 fz hw hk9
  obtain ⟨t0, t1, t2, t3, t4, t5, t6, t7, t8⟩ := nine_cells HK4.out
  clear HK4
  go_wp2_with fail
  refine (HF.out w4 HP4.out).mono ?_; intro e5 w5 hq
  obtain ⟨rfl, hP5, hb5⟩ := hq
  have HP5 := Lib.hid hP5
  have HB5 := Lib.hid (HB4.out.trans hb5)
  clear hP5 hb5 HF HP4 HB4 t0 t1 t2 t3 t4 t5 t6 t7 t8
  go_wp2
  exact bodyPost_ret (v := .int .i64 (s.next.count : Int)) (by simp [results, Tryd.results69, go_sem]) rfl ⟨rfl, HP5.out, HB5.out⟩
set_option maxHeartbeats 8000000 in
set_option maxRecDepth 100000 in
theorem atom_text (hP : Pst w B pb A cp l s) (hi : Inv s) {x : Tk} (hx : tkAt l s.read = x) (h2 : x.kind = 2) (hread : s.read < 16777216) (htx : x.text.length ≤ 281474976710656) :
    Calls Tryd.prog 69 #[.pointer (some ⟨pb, 0, none⟩)] w (RunPost B pb A cp l w (layK s.next { kind := 3, text := x.text } (-1))) := by
  have HF : Hid (∀ w', Pst w' B pb A cp l s.next → Calls Tryd.prog 76 #[.pointer (some ⟨pb, 0, none⟩), .agg #[.int .i64 3, .int .i64 0, .int .i64 0, .int .i64 0, .int .i64 0, .int .u64 0, .int .u64 0, .int .u64 0, .int .u64 0, .string (bs x.text)]] w' (RunPost B pb A cp l w' (layK s.next { kind := 3, text := x.text } (-1)))) := fun w' h => by
    have q := h.leaf (by have := hi.next.1; omega) hi.next.2 { kind := 3, text := x.text } (mvOkZ htx rfl rfl)
    rw [ndC_zero] at q; exact q
  have e1 : (x.kind == 1) = false := by rw [h2]; rfl
  have e2 : (x.kind == 2) = true := by rw [h2]; rfl
  clear hi h2 htx
  have HT := Lib.hid hP.token
  have HP := Lib.hid hP
  have hbs := hP.heap
  rw [hx] at HT
  unfold tkC at HT
  clear hP
  go_enter Tryd.func69, Tryd.ntmps69
  go_wp2_with fail
  refine HT.out.mono ?_; rintro e2 w2 ⟨rfl, hb2⟩
  have HP2 := Lib.hid (HP.out.later hb2)
  have HB2 := Lib.hid (Fr.of hb2 hbs)
  clear hb2 HT HP
  have hk9 := Lib.hid (Blk.new w2 (tkC x) 61)
  have hb9 := Lib.hid ((Below.refl w2.heap.size w2).alloc (Nat.le_refl _) (.cells (tkC x) 61))
  unfold tkC at hk9 hb9
  go_upto_region 2 with (fail)
  generalize w2.alloc (.cells #[.int .i64 x.kind, .int .i64 x.at_, .int .u64 (wd x.cls 0), .int .u64 (wd x.cls 1), .int .u64 (wd x.cls 2), .int .u64 (wd x.cls 3), .string (bs x.text), .int .i64 x.lo, .int .i64 x.hi] 61) = w3 at *
  have HP3 := Lib.hid (HP2.out.later hb9.out)
  have HB3 := Lib.hid (HB2.out.trans (Fr.of hb9.out HP2.out.heap))
  clear HP2 HB2 hb9
  generalize w2.heap.size = tb at *
  obtain ⟨t0, -, -, -, -, -, -, -, -⟩ := nine_cells hk9.out
  have c1 := HP3.out.cell1
  have fz := HP3.out.frozen 1
  have hw := wrap_of (by omega : (s.read : Int) + 1 ≤ 1073741824) (by omega : (0 : Int) ≤ (s.read : Int) + 1)
  have HP4 := Lib.hid (HP3.out.next hread)
  have HB4 := Lib.hid (HB3.out.setP HP3.out 1 (.int .i64 ((s.read : Int) + 1)))
  have HK4 : Hid (Blk (w3.setCell ⟨pb, 1, none⟩ (.int .i64 ((s.read : Int) + 1))) tb #[.int .i64 x.kind, .int .i64 x.at_, .int .u64 (wd x.cls 0), .int .u64 (wd x.cls 1), .int .u64 (wd x.cls 2), .int .u64 (wd x.cls 3), .string (bs x.text), .int .i64 x.lo, .int .i64 x.hi] 61) := by
    obtain ⟨o1, o2, o3, h0⟩ := HP3.out
    exact hk9.out.setCell_ne (a := ⟨pb, 1, none⟩) (Blk.typed2 h0.blk hk9.out (by decide)) (.int .i64 ((s.read : Int) + 1))
  clear HP3 HB3
  go_upto_region 8 with (fail)
  generalize w3.setCell ⟨pb, 1, none⟩ (.int .i64 ((s.read : Int) + 1)) = w4 at *
  clear t0 c1 fz hw hk9
  obtain ⟨t0, t1, t2, t3, t4, t5, t6, t7, t8⟩ := nine_cells HK4.out
  clear HK4
  go_wp2_with fail
  refine (HF.out w4 HP4.out).mono ?_; intro e5 w5 hq
  obtain ⟨rfl, hP5, hb5⟩ := hq
  have HP5 := Lib.hid hP5
  have HB5 := Lib.hid (HB4.out.trans hb5)
  clear hP5 hb5 HF HP4 HB4 t0 t1 t2 t3 t4 t5 t6 t7 t8
  go_wp2
  exact bodyPost_ret (v := .int .i64 (s.next.count : Int)) (by simp [results, Tryd.results69, go_sem]) rfl ⟨rfl, HP5.out, HB5.out⟩
set_option maxHeartbeats 8000000 in
set_option maxRecDepth 100000 in
theorem atom_open (hP : Pst w B pb A cp l s) {x : Tk} (hx : tkAt l s.read = x) (h3 : x.kind = 3) {r : PR} (hr : r ≠ .out) (hG : CallM 77 l s r) :
    Calls Tryd.prog 69 #[.pointer (some ⟨pb, 0, none⟩)] w (RunPost B pb A cp l w r) := by
  have HG := Lib.hid hG
  have e1 : (x.kind == 1) = false := by rw [h3]; rfl
  have e2 : (x.kind == 2) = false := by rw [h3]; rfl
  have e3 : (x.kind == 3) = true := by rw [h3]; rfl
  clear h3 hG
  have HT := Lib.hid hP.token
  have HP := Lib.hid hP
  have hbs := hP.heap
  rw [hx] at HT
  unfold tkC at HT
  clear hP
  go_enter Tryd.func69, Tryd.ntmps69
  go_wp2_with fail
  refine HT.out.mono ?_; rintro e2 w2 ⟨rfl, hb2⟩
  have HP2 := Lib.hid (HP.out.later hb2)
  have HB2 := Lib.hid (Fr.of hb2 hbs)
  clear hb2 HT HP
  have hk9 := Lib.hid (Blk.new w2 (tkC x) 61)
  have hb9 := Lib.hid ((Below.refl w2.heap.size w2).alloc (Nat.le_refl _) (.cells (tkC x) 61))
  unfold tkC at hk9 hb9
  go_upto_region 2 with (fail)
  generalize w2.alloc (.cells #[.int .i64 x.kind, .int .i64 x.at_, .int .u64 (wd x.cls 0), .int .u64 (wd x.cls 1), .int .u64 (wd x.cls 2), .int .u64 (wd x.cls 3), .string (bs x.text), .int .i64 x.lo, .int .i64 x.hi] 61) = w3 at *
  have HP3 := Lib.hid (HP2.out.later hb9.out)
  have HB3 := Lib.hid (HB2.out.trans (Fr.of hb9.out HP2.out.heap))
  clear HP2 HB2 hb9
  generalize w2.heap.size = tb at *
  obtain ⟨t0, -, -, -, -, -, -, -, -⟩ := nine_cells hk9.out
  go_wp2_with fail
  refine (HG.out w3 B pb A cp HP3.out).mono ?_; intro e4 w4 hq
  cases r with
  | out => exact absurd hq id
  | bad e p =>
    obtain ⟨rfl, hb4⟩ := hq
    have HB4 := Lib.hid (HB3.out.trans hb4)
    clear hb4 HG HP3 HB3 hr
    go_wp2
    exact ⟨rfl, (by assumption : ftE e p = _).symm, HB4.out⟩
  | ok a u =>
    obtain ⟨rfl, hP4, hb4⟩ := hq
    have HP4 := Lib.hid hP4
    have HB4 := Lib.hid (HB3.out.trans hb4)
    clear hP4 hb4 HG HP3 HB3 hr t0 hk9
    go_wp2
    exact bodyPost_ret (v := .int .i64 a) (by simp [results, Tryd.results69, go_sem]) rfl ⟨rfl, HP4.out, HB4.out⟩
set_option maxHeartbeats 8000000 in
set_option maxRecDepth 100000 in
theorem atom_frame (hP : Pst w B pb A cp l s) (hi : Inv s) {x : Tk} (hx : tkAt l s.read = x) (h8 : x.kind = 8) (hread : s.read < 16777216) {r : PR} (hr : r ≠ .out) (hG : CallM 77 l s.next r) (hq : ∀ b v, r = .ok b v → v.count ≤ 2 * v.read + 2 ∧ KeptO v) :
    Calls Tryd.prog 69 #[.pointer (some ⟨pb, 0, none⟩)] w (RunPost B pb A cp l w (r.bind fun g s => layK s { kind := 8, a := g } (-1))) := by
  have HG := Lib.hid hG
  have HQ := Lib.hid hq
  have e1 : (x.kind == 1) = false := by rw [h8]; rfl
  have e2 : (x.kind == 2) = false := by rw [h8]; rfl
  have e3 : (x.kind == 3) = false := by rw [h8]; rfl
  have e8 : (x.kind == 8) = true := by rw [h8]; rfl
  have e9 : (x.kind == 9) = false := by rw [h8]; rfl
  clear h8 hG hq hi
  have HT := Lib.hid hP.token
  have HP := Lib.hid hP
  have hbs := hP.heap
  rw [hx] at HT
  unfold tkC at HT
  clear hP
  go_enter Tryd.func69, Tryd.ntmps69
  go_wp2_with fail
  refine HT.out.mono ?_; rintro e2 w2 ⟨rfl, hb2⟩
  have HP2 := Lib.hid (HP.out.later hb2)
  have HB2 := Lib.hid (Fr.of hb2 hbs)
  clear hb2 HT HP
  have hk9 := Lib.hid (Blk.new w2 (tkC x) 61)
  have hb9 := Lib.hid ((Below.refl w2.heap.size w2).alloc (Nat.le_refl _) (.cells (tkC x) 61))
  unfold tkC at hk9 hb9
  go_upto_region 2 with (fail)
  generalize w2.alloc (.cells #[.int .i64 x.kind, .int .i64 x.at_, .int .u64 (wd x.cls 0), .int .u64 (wd x.cls 1), .int .u64 (wd x.cls 2), .int .u64 (wd x.cls 3), .string (bs x.text), .int .i64 x.lo, .int .i64 x.hi] 61) = w3 at *
  have HP3 := Lib.hid (HP2.out.later hb9.out)
  have HB3 := Lib.hid (HB2.out.trans (Fr.of hb9.out HP2.out.heap))
  clear HP2 HB2 hb9
  generalize w2.heap.size = tb at *
  obtain ⟨t0, -, -, -, -, -, -, -, -⟩ := nine_cells hk9.out
  have c1 := HP3.out.cell1
  have fz := HP3.out.frozen 1
  have hw := wrap_of (by omega : (s.read : Int) + 1 ≤ 1073741824) (by omega : (0 : Int) ≤ (s.read : Int) + 1)
  have HP4 := Lib.hid (HP3.out.next hread)
  have HB4 := Lib.hid (HB3.out.setP HP3.out 1 (.int .i64 ((s.read : Int) + 1)))
  have HK4 : Hid (Blk (w3.setCell ⟨pb, 1, none⟩ (.int .i64 ((s.read : Int) + 1))) tb #[.int .i64 x.kind, .int .i64 x.at_, .int .u64 (wd x.cls 0), .int .u64 (wd x.cls 1), .int .u64 (wd x.cls 2), .int .u64 (wd x.cls 3), .string (bs x.text), .int .i64 x.lo, .int .i64 x.hi] 61) := by
    obtain ⟨o1, o2, o3, h0⟩ := HP3.out
    exact hk9.out.setCell_ne (a := ⟨pb, 1, none⟩) (Blk.typed2 h0.blk hk9.out (by decide)) (.int .i64 ((s.read : Int) + 1))
  clear HP3 HB3
  go_upto_region 13 with (fail)
  generalize w3.setCell ⟨pb, 1, none⟩ (.int .i64 ((s.read : Int) + 1)) = w4 at *
  clear t0 c1 fz hw hk9
  obtain ⟨t0, t1, t2, t3, t4, t5, t6, t7, t8⟩ := nine_cells HK4.out
  clear HK4
  clear t0 t1 t2 t3 t4 t5 t6 t7 t8
  go_wp2_with fail
  refine (HG.out w4 B pb A cp HP4.out).mono ?_; intro e5 w5 hq
  cases r with
  | out => exact absurd hq id
  | bad e p =>
    obtain ⟨rfl, hb5⟩ := hq
    have HB5 := Lib.hid (HB4.out.trans hb5)
    clear hb5 HG HQ HP4 HB4 hr
    go_wp2
    exact ⟨rfl, (by assumption : ftE e p = _).symm, HB5.out⟩
  | ok a u =>
    obtain ⟨rfl, hP5, hb5⟩ := hq
    have HB5 := Lib.hid (HB4.out.trans hb5)
    obtain ⟨q1, q2⟩ := HQ.out a u rfl
    have hy := hP5.lay q1 q2 { kind := 8, a := a } (-1)
    rw [ndC_zero] at hy
    have HY := Lib.hid hy
    clear hP5 hb5 HG HQ HP4 HB4 hr hy q1 q2
    go_wp2_with fail
    refine HY.out.mono ?_; intro e6 w6 hq
    obtain ⟨rfl, hP6, hb6⟩ := hq
    have HP6 := Lib.hid hP6
    have HB6 := Lib.hid (HB5.out.trans hb6)
    clear hP6 hb6 HY HB5
    go_wp2
    exact bodyPost_ret (v := .int .i64 (u.count : Int)) (by simp [results, Tryd.results69, go_sem]) rfl ⟨rfl, HP6.out, HB6.out⟩
set_option maxHeartbeats 8000000 in
set_option maxRecDepth 100000 in
theorem atom_wide (hP : Pst w B pb A cp l s) (hi : Inv s) {x : Tk} (hx : tkAt l s.read = x) (h8 : x.kind = 9) (hread : s.read < 16777216) {r : PR} (hr : r ≠ .out) (hG : CallM 77 l s.next r) (hq : ∀ b v, r = .ok b v → v.count ≤ 2 * v.read + 2 ∧ KeptO v) :
    Calls Tryd.prog 69 #[.pointer (some ⟨pb, 0, none⟩)] w (RunPost B pb A cp l w (r.bind fun g s => layK s { kind := 9, a := g } (-1))) := by
  have HG := Lib.hid hG
  have HQ := Lib.hid hq
  have e1 : (x.kind == 1) = false := by rw [h8]; rfl
  have e2 : (x.kind == 2) = false := by rw [h8]; rfl
  have e3 : (x.kind == 3) = false := by rw [h8]; rfl
  have e8 : (x.kind == 8) = false := by rw [h8]; rfl
  have e9 : (x.kind == 9) = true := by rw [h8]; rfl
  clear h8 hG hq hi
  have HT := Lib.hid hP.token
  have HP := Lib.hid hP
  have hbs := hP.heap
  rw [hx] at HT
  unfold tkC at HT
  clear hP
  go_enter Tryd.func69, Tryd.ntmps69
  go_wp2_with fail
  refine HT.out.mono ?_; rintro e2 w2 ⟨rfl, hb2⟩
  have HP2 := Lib.hid (HP.out.later hb2)
  have HB2 := Lib.hid (Fr.of hb2 hbs)
  clear hb2 HT HP
  have hk9 := Lib.hid (Blk.new w2 (tkC x) 61)
  have hb9 := Lib.hid ((Below.refl w2.heap.size w2).alloc (Nat.le_refl _) (.cells (tkC x) 61))
  unfold tkC at hk9 hb9
  go_upto_region 2 with (fail)
  generalize w2.alloc (.cells #[.int .i64 x.kind, .int .i64 x.at_, .int .u64 (wd x.cls 0), .int .u64 (wd x.cls 1), .int .u64 (wd x.cls 2), .int .u64 (wd x.cls 3), .string (bs x.text), .int .i64 x.lo, .int .i64 x.hi] 61) = w3 at *
  have HP3 := Lib.hid (HP2.out.later hb9.out)
  have HB3 := Lib.hid (HB2.out.trans (Fr.of hb9.out HP2.out.heap))
  clear HP2 HB2 hb9
  generalize w2.heap.size = tb at *
  obtain ⟨t0, -, -, -, -, -, -, -, -⟩ := nine_cells hk9.out
  have c1 := HP3.out.cell1
  have fz := HP3.out.frozen 1
  have hw := wrap_of (by omega : (s.read : Int) + 1 ≤ 1073741824) (by omega : (0 : Int) ≤ (s.read : Int) + 1)
  have HP4 := Lib.hid (HP3.out.next hread)
  have HB4 := Lib.hid (HB3.out.setP HP3.out 1 (.int .i64 ((s.read : Int) + 1)))
  have HK4 : Hid (Blk (w3.setCell ⟨pb, 1, none⟩ (.int .i64 ((s.read : Int) + 1))) tb #[.int .i64 x.kind, .int .i64 x.at_, .int .u64 (wd x.cls 0), .int .u64 (wd x.cls 1), .int .u64 (wd x.cls 2), .int .u64 (wd x.cls 3), .string (bs x.text), .int .i64 x.lo, .int .i64 x.hi] 61) := by
    obtain ⟨o1, o2, o3, h0⟩ := HP3.out
    exact hk9.out.setCell_ne (a := ⟨pb, 1, none⟩) (Blk.typed2 h0.blk hk9.out (by decide)) (.int .i64 ((s.read : Int) + 1))
  clear HP3 HB3
  go_upto_region 16 with (fail)
  generalize w3.setCell ⟨pb, 1, none⟩ (.int .i64 ((s.read : Int) + 1)) = w4 at *
  clear t0 c1 fz hw hk9
  obtain ⟨t0, t1, t2, t3, t4, t5, t6, t7, t8⟩ := nine_cells HK4.out
  clear HK4
  clear t0 t1 t2 t3 t4 t5 t6 t7 t8
  go_wp2_with fail
  refine (HG.out w4 B pb A cp HP4.out).mono ?_; intro e5 w5 hq
  cases r with
  | out => exact absurd hq id
  | bad e p =>
    obtain ⟨rfl, hb5⟩ := hq
    have HB5 := Lib.hid (HB4.out.trans hb5)
    clear hb5 HG HQ HP4 HB4 hr
    go_wp2
    exact ⟨rfl, (by assumption : ftE e p = _).symm, HB5.out⟩
  | ok a u =>
    obtain ⟨rfl, hP5, hb5⟩ := hq
    have HB5 := Lib.hid (HB4.out.trans hb5)
    obtain ⟨q1, q2⟩ := HQ.out a u rfl
    have hy := hP5.lay q1 q2 { kind := 9, a := a } (-1)
    rw [ndC_zero] at hy
    have HY := Lib.hid hy
    clear hP5 hb5 HG HQ HP4 HB4 hr hy q1 q2
    go_wp2_with fail
    refine HY.out.mono ?_; intro e6 w6 hq
    obtain ⟨rfl, hP6, hb6⟩ := hq
    have HP6 := Lib.hid hP6
    have HB6 := Lib.hid (HB5.out.trans hb6)
    clear hP6 hb6 HY HB5
    go_wp2
    exact bodyPost_ret (v := .int .i64 (u.count : Int)) (by simp [results, Tryd.results69, go_sem]) rfl ⟨rfl, HP6.out, HB6.out⟩
set_option maxHeartbeats 8000000 in
set_option maxRecDepth 100000 in
theorem atom_no (hP : Pst w B pb A cp l s) {x : Tk} (hx : tkAt l s.read = x) (h1 : x.kind ≠ 1) (h2 : x.kind ≠ 2) (h3 : x.kind ≠ 3) (h8 : x.kind ≠ 8) (h9 : x.kind ≠ 9) :
    Calls Tryd.prog 69 #[.pointer (some ⟨pb, 0, none⟩)] w (RunPost B pb A cp l w (faultP l s)) := by
  have e1 := beq_false_of_ne h1
  have e2 := beq_false_of_ne h2
  have e3 := beq_false_of_ne h3
  have e8 := beq_false_of_ne h8
  have e9 := beq_false_of_ne h9
  obtain ⟨e, p, hf⟩ := fault_some l s
  have HF := Lib.hid hf
  rw [hf]
  clear h1 h2 h3 h8 h9 hf
  have HT := Lib.hid hP.token
  have HP := Lib.hid hP
  have hbs := hP.heap
  rw [hx] at HT
  unfold tkC at HT
  clear hP
  go_enter Tryd.func69, Tryd.ntmps69
  go_wp2_with fail
  refine HT.out.mono ?_; rintro e2 w2 ⟨rfl, hb2⟩
  have HP2 := Lib.hid (HP.out.later hb2)
  have HB2 := Lib.hid (Fr.of hb2 hbs)
  clear hb2 HT HP
  have hk9 := Lib.hid (Blk.new w2 (tkC x) 61)
  have hb9 := Lib.hid ((Below.refl w2.heap.size w2).alloc (Nat.le_refl _) (.cells (tkC x) 61))
  unfold tkC at hk9 hb9
  go_upto_region 2 with (fail)
  generalize w2.alloc (.cells #[.int .i64 x.kind, .int .i64 x.at_, .int .u64 (wd x.cls 0), .int .u64 (wd x.cls 1), .int .u64 (wd x.cls 2), .int .u64 (wd x.cls 3), .string (bs x.text), .int .i64 x.lo, .int .i64 x.hi] 61) = w3 at *
  have HP3 := Lib.hid (HP2.out.later hb9.out)
  have HB3 := Lib.hid (HB2.out.trans (Fr.of hb9.out HP2.out.heap))
  clear HP2 HB2 hb9
  generalize w2.heap.size = tb at *
  obtain ⟨t0, -, -, -, -, -, -, -, -⟩ := nine_cells hk9.out
  go_wp2_with fail
  obtain ⟨o1, o2, o3, h0⟩ := HP3.out
  refine (h0.fault HF.out).mono ?_; rintro e4 w4 ⟨rfl, hb4⟩
  have HB4 := Lib.hid (HB3.out.trans (Fr.of hb4 HP3.out.heap))
  clear hb4 h0
  go_wp2
  exact ⟨rfl, rfl, HB4.out⟩
end
end Go.Proofs.YtcgjmnhmhiddkaaDoor
/- The parser's group: walked. -/
namespace Go.Proofs.YtcgjmnhmhiddkaaDoor
open Go Go.RowKit
set_option linter.unusedVariables false
set_option linter.unusedSimpArgs false

/-- What group holds while it runs. -/
structure GpS (w0 : World) (B pb : Nat) (A : Option Addr) (cp : Nat) (l : List Tk) (u : PS) (ov nv av : Value) (w : World) : Prop where
  bel : Fr B w0 w
  st : Pst0 w B pb A cp l u ov nv av
theorem GpS.later {w0 : World} {B pb : Nat} {A : Option Addr} {cp : Nat} {l : List Tk} {u : PS} {ov nv av : Value} {w w' : World} (h : GpS w0 B pb A cp l u ov nv av w) (hb : Below w.heap.size w w') : GpS w0 B pb A cp l u ov nv av w' :=
  ⟨h.bel.trans (Fr.of hb (Nat.le_of_lt (Nat.lt_of_le_of_lt h.st.base h.st.blk.lt))), h.st.later hb⟩
section
variable {w : World} {B pb : Nat} {A : Option Addr} {cp : Nat} {l : List Tk} {s : PS} {ov nv av : Value}
set_option maxHeartbeats 8000000 in
set_option maxRecDepth 100000 in
theorem group_no (hP : Pst w B pb A cp l s) (h3 : (tkAt l s.read).kind ≠ 3) : Calls Tryd.prog 77 #[.pointer (some ⟨pb, 0, none⟩)] w (RunPost B pb A cp l w (faultP l s)) := by
  obtain ⟨ov, nv, av, h0⟩ := hP
  obtain ⟨e, p, hf⟩ := fault_some l s
  have HW := Lib.hid (want_bad h0 h3 hf)
  have hbs : B ≤ w.heap.size := Nat.le_of_lt (Nat.lt_of_le_of_lt h0.base h0.blk.lt)
  rw [hf]
  clear hf h3 h0
  go_enter Tryd.func77, Tryd.ntmps77
  go_wp2_with fail
  refine HW.out.mono ?_; rintro e1 w1 ⟨rfl, hb1⟩
  have HB1 := Lib.hid (Fr.of hb1 hbs)
  clear hb1 HW
  go_wp2
  exact ⟨rfl, (by assumption : ftE e p = _).symm, HB1.out⟩
set_option maxHeartbeats 8000000 in
set_option maxRecDepth 100000 in
theorem group_deep (hP : Pst w B pb A cp l s) {x : Tk} (hx : tkAt l s.read = x) (h3 : x.kind = 3) (hread : s.read < 16777216) (hd : 64 < s.opn.length + 1) (hlo : s.opn.length < 16777216) : Calls Tryd.prog 77 #[.pointer (some ⟨pb, 0, none⟩)] w (RunPost B pb A cp l w (.bad 8 x.at_)) := by
  obtain ⟨ov, nv, av, h0⟩ := hP
  have hbs : B ≤ w.heap.size := Nat.le_of_lt (Nat.lt_of_le_of_lt h0.base h0.blk.lt)
  have HW := Lib.hid (want_ok (k := 3) h0 (by rw [hx]; exact h3) hread)
  have hol := h0.op
  obtain ⟨O, oc, hov, -⟩ := h0.opn.row
  rw [hx] at HW
  unfold tkC at HW
  rw [hov] at HW
  clear h3 h0 hov
  go_enter Tryd.func77, Tryd.ntmps77
  go_wp2_with fail
  refine HW.out.mono ?_; rintro e1 w1 ⟨rfl, hP1, hb1⟩
  have hf1 := field_tok1 x.kind x.at_ x.lo x.hi (wd x.cls 0) (wd x.cls 1) (wd x.cls 2) (wd x.cls 3) (bs x.text) w1
  have HP1 := Lib.hid hP1
  have HB1 := Lib.hid hb1
  clear hP1 hb1 HW
  go_upto_region 2 with (fail)
  have c2 := HP1.out.blk.cell 2
  have cf := HP1.out.blk.frozen
  simp at c2
  have HBN := Lib.hid (Blk.new w1 #[.int .i64 x.at_] 3)
  have HP2 := Lib.hid (HP1.out.later ((Below.refl _ _).alloc (Nat.le_refl _) (.cells #[.int .i64 x.at_] 3)))
  have HB2 := Lib.hid (HB1.out.alloc (Nat.le_of_lt (Nat.lt_of_le_of_lt HP1.out.base HP1.out.blk.lt)) (.cells #[.int .i64 x.at_] 3))
  have hmm : Hid ((s.next.opn ++ [x.at_]).length = s.opn.length + 1) := by unfold Hid; simp [PS.next]
  have hgt : (64 : Int) < ((s.opn.length : Nat) : Int) + 1 := by omega
  go_upto_region 3 with (at_builtin; refine wpList_append_int rfl _ _ rfl B (.slice O s.opn.length oc) s.next.opn rfl HP2.out.opn _ x.at_ rfl HBN.out (by simp only [PS.next]; omega) (Nat.le_of_lt (Nat.lt_of_le_of_lt HP2.out.base HP2.out.blk.lt)) ?_; intro v' w4 h1 h2 h3; obtain ⟨a9, k9, rfl, -⟩ := h1.row; obtain ⟨hb5, hp5⟩ := HP2.out.setOpn h1 h2 h3 hlo; rw [hmm.out] at hp5 ⊢; have HP5 := Lib.hid hp5; have HB5 := Lib.hid ((HB2.out.row HP2.out.opn (Nat.le_refl _) (by decide) (Nat.le_of_lt (Nat.lt_of_le_of_lt HP2.out.base HP2.out.blk.lt)) h2).setB hb5 (by decide) HP2.out.base 2 (.slice a9 (s.opn.length + 1) k9)); have d2 := hb5.cell 2; have df := hb5.frozen; simp at d2; clear hb5 hp5 h1 h2 h3 HP1 HB1 HP2 HB2 HBN c2 cf)
  generalize w4.setCell ⟨pb, 2, none⟩ (.slice a9 (s.opn.length + 1) k9) = w5 at *
  have c2 := HP5.out.blk.cell 2
  simp at c2
  go_wp2
  exact ⟨rfl, rfl, HB5.out⟩
set_option maxHeartbeats 8000000 in
set_option maxRecDepth 100000 in
theorem group_go (hP : Pst w B pb A cp l s) {x : Tk} (hx : tkAt l s.read = x) (h3 : x.kind = 3) (hread : s.read < 16777216) (hd : ¬ 64 < s.opn.length + 1) (hlo : s.opn.length < 16777216)
    {r : PR} (hI : CallM 82 l { s.next with opn := s.opn ++ [x.at_] } r) (hq : ∀ b v, r = .ok b v → v.opn = s.opn ++ [x.at_]) :
    Calls Tryd.prog 77 #[.pointer (some ⟨pb, 0, none⟩)] w (RunPost B pb A cp l w (r.bind fun g s => if (tkAt l s.read).kind = 4 then .ok g { s.next with opn := s.opn.dropLast } else faultP l s)) := by
  have HI := Lib.hid hI
  have HQ := Lib.hid hq
  obtain ⟨rr, hrr⟩ : ∃ rr, (r.bind fun g s => if (tkAt l s.read).kind = 4 then .ok g { s.next with opn := s.opn.dropLast } else faultP l s) = rr := ⟨_, rfl⟩
  rw [hrr]
  have HRR := Lib.hid hrr
  clear hI hq hrr
  obtain ⟨ov, nv, av, h0⟩ := hP
  have hbs : B ≤ w.heap.size := Nat.le_of_lt (Nat.lt_of_le_of_lt h0.base h0.blk.lt)
  have HW := Lib.hid (want_ok (k := 3) h0 (by rw [hx]; exact h3) hread)
  have hol := h0.op
  obtain ⟨O, oc, hov, -⟩ := h0.opn.row
  rw [hx] at HW
  unfold tkC at HW
  rw [hov] at HW
  clear h3 h0 hov
  go_enter Tryd.func77, Tryd.ntmps77
  go_wp2_with fail
  refine HW.out.mono ?_; rintro e1 w1 ⟨rfl, hP1, hb1⟩
  have hf1 := field_tok1 x.kind x.at_ x.lo x.hi (wd x.cls 0) (wd x.cls 1) (wd x.cls 2) (wd x.cls 3) (bs x.text) w1
  have HP1 := Lib.hid hP1
  have HB1 := Lib.hid hb1
  clear hP1 hb1 HW
  go_upto_region 2 with (fail)
  have c2 := HP1.out.blk.cell 2
  have cf := HP1.out.blk.frozen
  simp at c2
  have HBN := Lib.hid (Blk.new w1 #[.int .i64 x.at_] 3)
  have HP2 := Lib.hid (HP1.out.later ((Below.refl _ _).alloc (Nat.le_refl _) (.cells #[.int .i64 x.at_] 3)))
  have HB2 := Lib.hid (HB1.out.alloc (Nat.le_of_lt (Nat.lt_of_le_of_lt HP1.out.base HP1.out.blk.lt)) (.cells #[.int .i64 x.at_] 3))
  have hmm : Hid ((s.next.opn ++ [x.at_]).length = s.opn.length + 1) := by unfold Hid; simp [PS.next]
  have hgt : ¬ ((64 : Int) < ((s.opn.length : Nat) : Int) + 1) := by omega
  go_upto_region 3 with (at_builtin; refine wpList_append_int rfl _ _ rfl B (.slice O s.opn.length oc) s.next.opn rfl HP2.out.opn _ x.at_ rfl HBN.out (by simp only [PS.next]; omega) (Nat.le_of_lt (Nat.lt_of_le_of_lt HP2.out.base HP2.out.blk.lt)) ?_; intro v' w4 h1 h2 h3; obtain ⟨a9, k9, rfl, -⟩ := h1.row; obtain ⟨hb5, hp5⟩ := HP2.out.setOpn h1 h2 h3 hlo; rw [hmm.out] at hp5 ⊢; have HP5 := Lib.hid hp5; have HB5 := Lib.hid ((HB2.out.row HP2.out.opn (Nat.le_refl _) (by decide) (Nat.le_of_lt (Nat.lt_of_le_of_lt HP2.out.base HP2.out.blk.lt)) h2).setB hb5 (by decide) HP2.out.base 2 (.slice a9 (s.opn.length + 1) k9)); have d2 := hb5.cell 2; have df := hb5.frozen; simp at d2; clear hb5 hp5 h1 h2 h3 HP1 HB1 HP2 HB2 HBN c2 cf)
  generalize w4.setCell ⟨pb, 2, none⟩ (.slice a9 (s.opn.length + 1) k9) = w5 at *
  clear df d2
  have c2 := HP5.out.blk.cell 2
  simp at c2
  go_wp2_with fail
  refine (HI.out _ B pb A cp ⟨_, _, _, HP5.out⟩).mono ?_; intro e6 w6 hq
  cases r with
  | out => exact absurd hq id
  | bad e p =>
    obtain ⟨rfl, hb6⟩ := hq
    have HB6 := Lib.hid (HB5.out.trans hb6)
    have hrr : rr = .bad e p := HRR.out.symm
    subst hrr
    clear hb6 HI HQ HP5 HB5 HRR
    go_wp2
    exact ⟨rfl, (by assumption : ftE e p = _).symm, HB6.out⟩
  | ok a v =>
    obtain ⟨rfl, hP6, hb6⟩ := hq
    have HB6 := Lib.hid (HB5.out.trans hb6)
    have hvo := HQ.out a v rfl
    clear hb6 HI HQ HP5 HB5
    obtain ⟨ov6, nv6, av6, h6⟩ := hP6
    have hr : (if (tkAt l v.read).kind = 4 then PR.ok a { v.next with opn := v.opn.dropLast } else faultP l v) = rr := HRR.out
    clear HRR
    by_cases h4 : (tkAt l v.read).kind = 4
    · rw [if_pos h4] at hr
      have hread6 : v.read < 16777216 := Nat.lt_of_lt_of_le (tk_in (by rw [h4]; decide)) h6.long
      have HW6 := Lib.hid (want_ok h6 h4 hread6)
      have HVO := Lib.hid hvo
      have HR := Lib.hid hr
      clear h6 hr h4 hread6 hvo
      generalize tkAt l v.read = y at *
      unfold tkC at HW6
      go_wp2_with fail
      refine HW6.out.mono ?_; rintro e7 w7 ⟨rfl, hP7, hb7⟩
      have HS7 : Hid (GpS w B pb A cp l v.next ov6 nv6 av6 w7) := ⟨HB6.out.trans hb7, hP7⟩
      clear hP7 hb7 HB6 HW6
      have hlen : v.next.opn.length = s.opn.length + 1 := by show v.opn.length = _; rw [HVO.out]; simp
      have hpos : 0 < v.next.opn.length := by omega
      obtain ⟨g, c, hv, hc, -⟩ := HS7.out.st.dropOpn hpos
      generalize s.opn.length = m at *
      rw [hlen] at hv hc
      subst hv
      have HLEN := Lib.hid hlen
      have HPOS := Lib.hid hpos
      have hrr := HR.out
      subst hrr
      have hw1 := wrap_of (by omega : (m : Int) ≤ 1073741824) (by omega : (0 : Int) ≤ (m : Int))
      have hw2 := wrap_of (by omega : (m : Int) + 1 - 1 ≤ 1073741824) (by omega : (0 : Int) ≤ (m : Int) + 1 - 1)
      have hmc : m ≤ c := by omega
      clear HVO HR hlen hpos hgt c2 hmm hf1 hd hlo hol
      go_upto_region 7 with (fail)
      refine wp_region_stable_tail 14 (S := (GpS w B pb A cp l v.next (.slice (some ⟨g, 0, none⟩) (m + 1) c) nv6 av6)) (hSt := fun _ _ h hb => h.later hb) (plan := [[(0, none)], [(0, none)], [(32, some 1)], [(33, some 2)], [(34, some 3)], [(0, none)], [(36, some 5)], [(37, some 6)], [(38, some 7)], [(39, some 8)], [(40, some 9)], [(35, some 4), (41, some 10)], [(31, some 0)], [(43, some 12)]]) rfl rfl (by kernel_rfl) (by kernel_rfl) (by kernel_rfl) (by kernel_rfl) ?hS ?_
      rotate_left
      iterate 14 first
        | (refine chain_skip (by rfl) (by rfl) ?_)
        | (apply chain_want (by rfl)
           · intro act wx hS hr
             simp at hr
             have c2 := hS.st.blk.cell 2
             simp at c2
             go_simp
             (try go_ints)
             first
               | exact Done.same
          )
      show ∀ w', _ → _
      intro wz hz
      simp [Act.put]
      case hS => exact HS7.out
      obtain ⟨g', c', hv', hc', hp'⟩ := hz.st.dropOpn HPOS.out
      rw [HLEN.out, Nat.add_sub_cancel] at hp'
      rw [HLEN.out] at hv'
      have c2 := hz.st.blk.cell 2
      simp at c2
      have cf := hz.st.blk.frozen
      have hB := Lib.hid (hz.bel.setP0 hz.st 2 (.slice (some ⟨g, 0, none⟩) m c))
      cases hv'
      have HPP := Lib.hid hp'
      clear hp' hc' HS7 hz
      go_wp2
      exact bodyPost_ret (v := .int .i64 a) (by simp [results, Tryd.results77, go_sem]) rfl ⟨rfl, ⟨_, _, _, HPP.out⟩, hB.out⟩
    · rw [if_neg h4] at hr
      obtain ⟨e, p, hf⟩ := fault_some l v
      have HW6 := Lib.hid (want_bad h6 h4 hf)
      have HF := Lib.hid (hf.symm.trans hr)
      have hbs6 : B ≤ w6.heap.size := Nat.le_of_lt (Nat.lt_of_le_of_lt h6.base h6.blk.lt)
      clear h6 hr h4 hf hvo
      go_wp2_with fail
      refine HW6.out.mono ?_; rintro e7 w7 ⟨rfl, hb7⟩
      have HB7 := Lib.hid (HB6.out.trans (Fr.of hb7 hbs6))
      have hrr := HF.out
      subst hrr
      clear hb7 HB6 HW6 HF
      go_wp2
      exact ⟨rfl, (by assumption : ftE e p = _).symm, HB7.out⟩
end
end Go.Proofs.YtcgjmnhmhiddkaaDoor
/- The parser's functions keep what they promise. -/
namespace Go.Proofs.YtcgjmnhmhiddkaaDoor
open Go Go.RowKit
set_option linter.unusedVariables false
set_option linter.unusedSimpArgs false

def TkTxt' (l : List Tk) : Prop := ∀ p, (tkAt l p).text.length ≤ 281474976710656
theorem atom_step {l : List Tk} (hl : TkTxt' l) {n : Nat} (IH : ∀ k, k ≤ n → RunC l k) {s : PS} (hi : Inv s) (hne : run l (n + 1) .atom s ≠ .out) : CallM 69 l s (run l (n + 1) .atom s) := by
  intro w B pb A cp hP
  obtain ⟨x, hx⟩ : ∃ x, tkAt l s.read = x := ⟨_, rfl⟩
  have hlong := hP.long
  have hin : x.kind ≠ 10 → s.read < 16777216 := fun h => Nat.lt_of_lt_of_le (tk_in (by rw [hx]; exact h)) hlong
  have hr : run l (n + 1) .atom s = if x.kind = 1 then layK s.next { kind := 2, cls := x.cls } (-1)
    else if x.kind = 2 then layK s.next { kind := 3, text := x.text } (-1)
    else if x.kind = 3 then run l n .group s
    else if x.kind = 8 then (run l n .group s.next).bind fun g s => layK s { kind := 8, a := g } (-1)
    else if x.kind = 9 then (run l n .group s.next).bind fun g s => layK s { kind := 9, a := g } (-1)
    else faultP l s := by rw [← hx]; rfl
  rw [hr] at hne ⊢
  clear hr
  have hq : ∀ b v, run l n .group s.next = .ok b v → v.count ≤ 2 * v.read + 2 ∧ KeptO v := fun b v h => by
    have q := run_inv h hi.next
    simp only [moreM, lessM] at q
    exact ⟨by omega, q.2⟩
  by_cases h1 : x.kind = 1
  · rw [if_pos h1]; exact atom_bytes hP hi hx h1 (hin (by rw [h1]; decide))
  rw [if_neg h1] at hne ⊢
  by_cases h2 : x.kind = 2
  · rw [if_pos h2]; exact atom_text hP hi hx h2 (hin (by rw [h2]; decide)) (by rw [← hx]; exact hl _)
  rw [if_neg h2] at hne ⊢
  by_cases h3 : x.kind = 3
  · rw [if_pos h3] at hne ⊢
    exact atom_open hP hx h3 hne (IH n (Nat.le_refl _) .group _ s rfl hi hne)
  rw [if_neg h3] at hne ⊢
  by_cases h8 : x.kind = 8
  · rw [if_pos h8] at hne ⊢
    have ho : run l n .group s.next ≠ .out := fun e => hne (by rw [e]; rfl)
    exact atom_frame hP hi hx h8 (hin (by rw [h8]; decide)) ho (IH n (Nat.le_refl _) .group _ s.next rfl hi.next ho) hq
  rw [if_neg h8] at hne ⊢
  by_cases h9 : x.kind = 9
  · rw [if_pos h9] at hne ⊢
    have ho : run l n .group s.next ≠ .out := fun e => hne (by rw [e]; rfl)
    exact atom_wide hP hi hx h9 (hin (by rw [h9]; decide)) ho (IH n (Nat.le_refl _) .group _ s.next rfl hi.next ho) hq
  rw [if_neg h9]
  exact atom_no hP hx h1 h2 h3 h8 h9
theorem group_step {l : List Tk} {n : Nat} (IH : ∀ k, k ≤ n → RunC l k) {s : PS} (hi : Inv s) (hne : run l (n + 1) .group s ≠ .out) : CallM 77 l s (run l (n + 1) .group s) := by
  intro w B pb A cp hP
  obtain ⟨x, hx⟩ : ∃ x, tkAt l s.read = x := ⟨_, rfl⟩
  have hlong := hP.long
  have hr : run l (n + 1) .group s = if x.kind = 3 then (if 64 < s.opn.length + 1 then .bad 8 x.at_
      else (run l n .inside { s.next with opn := s.opn ++ [x.at_] }).bind fun g s => if (tkAt l s.read).kind = 4 then .ok g { s.next with opn := s.opn.dropLast } else faultP l s) else faultP l s := by rw [← hx]; rfl
  rw [hr] at hne ⊢
  clear hr
  have hop := hi.2.2
  by_cases h3 : x.kind = 3
  · have hread : s.read < 16777216 := Nat.lt_of_lt_of_le (tk_in (by rw [hx, h3]; decide)) hlong
    rw [if_pos h3] at hne ⊢
    by_cases hd : 64 < s.opn.length + 1
    · rw [if_pos hd]
      exact group_deep hP hx h3 hread hd (by omega)
    · rw [if_neg hd] at hne ⊢
      have hi2 : Inv { s.next with opn := s.opn ++ [x.at_] } := ⟨by have := hi.1; simp only [PS.next]; omega, hi.2.1, by simp; omega⟩
      have ho : run l n .inside { s.next with opn := s.opn ++ [x.at_] } ≠ .out := fun e => hne (by rw [e]; rfl)
      exact group_go hP hx h3 hread hd (by omega) (IH n (Nat.le_refl _) .inside _ _ rfl hi2 ho) (fun b v h => (run_read _ _ _ _ _ h).2.1)
  · rw [if_neg h3]
    exact group_no hP (by rw [hx]; exact h3)
theorem run_call {l : List Tk} (hl : TkTxt' l) : ∀ n k, k ≤ n → RunC l k
  | 0, k, hk => fun m f s _ _ hne => by
    obtain rfl : k = 0 := by omega
    exact absurd rfl hne
  | n + 1, k, hk => by
    have IH := run_call hl n
    by_cases h : k ≤ n
    · exact IH k h
    obtain rfl : k = n + 1 := by omega
    intro m f s hm hi hne
    cases m with
    | or => cases hm; exact or_step IH hi hne
    | row => cases hm; exact row_step IH hi hne
    | post => cases hm; exact post_step IH hi hne
    | atom => cases hm; exact atom_step hl IH hi hne
    | group => cases hm; exact group_step IH hi hne
    | inside => cases hm; exact inside_step IH hi hne
    | orL a => cases hm
    | rowL a => cases hm
    | postL a => cases hm
end Go.Proofs.YtcgjmnhmhiddkaaDoor
