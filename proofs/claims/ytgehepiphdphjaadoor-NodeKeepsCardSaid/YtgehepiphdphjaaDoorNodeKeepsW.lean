/- The statement NodeKeeps of layer 4, walked. -/
import Derived.Test.YtgehepiphdphjaaDoorNodeBuildsW
namespace Go.Proofs.YtgehepiphdphjaaDoor
open Go Go.RowKit
set_option linter.unusedVariables false
set_option linter.unusedSimpArgs false

theorem Blk.typed {w : World} {b c : Nat} {vs us : Array Value} {t u : TypeId} (h : Blk w b vs t) (k : Blk w c us u) (hne : t ≠ u) : b ≠ c := by
  intro e; subst e
  unfold Blk at h k
  rw [h] at k
  have := Option.some.inj k
  injection this with _ h2
  exact hne h2
theorem NRow.front {w : World} {A : Option Addr} {l m : List Nd} (h : NRow w A (l ++ m)) : NRow w A l := fun i hi => by
  have := h i (by rw [List.length_append]; omega)
  have e : (l ++ m).getD i nd0 = l.getD i nd0 := by
    rw [List.getD_eq_getElem?_getD, List.getD_eq_getElem?_getD, List.getElem?_append_left hi]
  rwa [e] at this
def RowB (g n : Nat) (w : World) : Prop := ∃ cur : Array Value, Blk w g cur 59 ∧ n * 10 ≤ cur.size
theorem RowB.later {g n : Nat} {w w' : World} (h : RowB g n w) (hb : Below w.heap.size w w') : RowB g n w' := by obtain ⟨cur, h1, h2⟩ := h; exact ⟨cur, h1.later hb, h2⟩
theorem RowB.set {g n : Nat} {w : World} (h : RowB g n w) (o : Nat) (v : Value) : RowB g n (w.setCell ⟨g, o, none⟩ v) := by obtain ⟨cur, h1, h2⟩ := h; exact ⟨_, h1.setCell o v, by simpa using h2⟩
theorem RowB.set_ne {g n : Nat} {w : World} (h : RowB g n w) {a : Addr} (hne : a.block ≠ g) (v : Value) : RowB g n (w.setCell a v) := by obtain ⟨cur, h1, h2⟩ := h; exact ⟨_, h1.setCell_ne hne v, h2⟩
theorem RowB.lt {g n : Nat} {w : World} (h : RowB g n w) : g < w.heap.size := by obtain ⟨cur, h1, _⟩ := h; exact h1.lt
/-- A box with a slice of a row of its own. -/
def BoxB (b g n c : Nat) (w : World) : Prop := Blk w b #[.slice (some ⟨g, 0, none⟩) n c] 49
structure Kp3 (wB : World) (bx gx nx cx by_ gy ny cy bz gz nz cz : Nat) (w : World) : Prop where
  bel : Below wB.heap.size wB w
  xb : BoxB bx gx nx cx w
  xr : RowB gx nx w
  yb : BoxB by_ gy ny cy w
  yr : RowB gy ny w
  zb : BoxB bz gz nz cz w
  zr : RowB gz nz w
  lx : wB.heap.size ≤ gx
  ly : gx < gy
  lz : gy < gz
theorem BoxB.set_ne {b g n c g' n' : Nat} {w : World} (h : BoxB b g n c w) (hr : RowB g' n' w) (o : Nat) (v : Value) : BoxB b g n c (w.setCell ⟨g', o, none⟩ v) := by
  obtain ⟨cur, h1, _⟩ := hr
  exact Blk.setCell_ne (h : Blk _ _ _ _) (a := ⟨g', o, none⟩) (h1.typed h (by decide)) v
theorem Kp3.setx {wB w : World} {bx gx nx cx by_ gy ny cy bz gz nz cz : Nat} (h : Kp3 wB bx gx nx cx by_ gy ny cy bz gz nz cz w) (o : Nat) (v : Value) : Kp3 wB bx gx nx cx by_ gy ny cy bz gz nz cz (w.setCell ⟨gx, o, none⟩ v) := by
  have h1 := h.lx; have h2 := h.ly; have h3 := h.lz
  exact ⟨h.bel.setCell (p := ⟨gx, o, none⟩) h1 v, h.xb.set_ne h.xr o v, h.xr.set o v, h.yb.set_ne h.xr o v, h.yr.set_ne (a := ⟨gx, o, none⟩) (by show gx ≠ gy; omega) v, h.zb.set_ne h.xr o v, h.zr.set_ne (a := ⟨gx, o, none⟩) (by show gx ≠ gz; omega) v, h1, h2, h3⟩
theorem Kp3.sety {wB w : World} {bx gx nx cx by_ gy ny cy bz gz nz cz : Nat} (h : Kp3 wB bx gx nx cx by_ gy ny cy bz gz nz cz w) (o : Nat) (v : Value) : Kp3 wB bx gx nx cx by_ gy ny cy bz gz nz cz (w.setCell ⟨gy, o, none⟩ v) := by
  have h1 := h.lx; have h2 := h.ly; have h3 := h.lz
  exact ⟨h.bel.setCell (p := ⟨gy, o, none⟩) (by show wB.heap.size ≤ gy; omega) v, h.xb.set_ne h.yr o v, h.xr.set_ne (a := ⟨gy, o, none⟩) (by show gy ≠ gx; omega) v, h.yb.set_ne h.yr o v, h.yr.set o v, h.zb.set_ne h.yr o v, h.zr.set_ne (a := ⟨gy, o, none⟩) (by show gy ≠ gz; omega) v, h1, h2, h3⟩
theorem Kp3.setz {wB w : World} {bx gx nx cx by_ gy ny cy bz gz nz cz : Nat} (h : Kp3 wB bx gx nx cx by_ gy ny cy bz gz nz cz w) (o : Nat) (v : Value) : Kp3 wB bx gx nx cx by_ gy ny cy bz gz nz cz (w.setCell ⟨gz, o, none⟩ v) := by
  have h1 := h.lx; have h2 := h.ly; have h3 := h.lz
  exact ⟨h.bel.setCell (p := ⟨gz, o, none⟩) (by show wB.heap.size ≤ gz; omega) v, h.xb.set_ne h.zr o v, h.xr.set_ne (a := ⟨gz, o, none⟩) (by show gz ≠ gx; omega) v, h.yb.set_ne h.zr o v, h.yr.set_ne (a := ⟨gz, o, none⟩) (by show gz ≠ gy; omega) v, h.zb.set_ne h.zr o v, h.zr.set o v, h1, h2, h3⟩
def KpL (wB : World) (bx gx nx cx by_ gy ny cy bz gz nz cz n : Nat) (i : Value) (w : World) : Prop := ∃ k : Nat, k ≤ n ∧ i = .int .i64 (k : Int) ∧ Kp3 wB bx gx nx cx by_ gy ny cy bz gz nz cz w
theorem RowB.at {g n : Nat} {w : World} (h : RowB g n w) {k : Nat} (hk : k < n) : (∃ v, w.cell? ⟨g, k * 10, none⟩ = some v) ∧ ∀ o, w.frozen? ⟨g, o, none⟩ = false := by
  obtain ⟨cur, h1, h2⟩ := h
  refine ⟨⟨cur[k * 10]'(by omega), ?_⟩, h1.frozen⟩
  rw [h1.cell, Array.getElem?_eq_getElem (by omega)]
def n77 : Nd := ⟨77, 0, 0, 0, 0, 0#256, []⟩
theorem n77_cells : ndC n77 = #[.int .i64 77, .int .i64 0, .int .i64 0, .int .i64 0, .int .i64 0, .int .u64 0, .int .u64 0, .int .u64 0, .int .u64 0, .string ⟨#[]⟩] := by
  show ndC ⟨77, 0, 0, 0, 0, 0#256, []⟩ = _
  rw [ndC_zero]; rfl
/-- All that is handed in, and its copies. -/
structure KpS (w0 : World) (A B : Option Addr) (a b : List Nd) (c1 c2 : Nat) (bo g cg bt T ct : Nat) (w : World) : Prop where
  i : NbS w0 A B a b c1 c2 w
  o : Bx bo (some ⟨g, 0, none⟩) a cg w
  t : Bx bt (some ⟨T, 0, none⟩) b ct w
  room : NRow w (some ⟨g, 0, none⟩) (a ++ [n77])
theorem KpS.later {w0 w w' : World} {A B : Option Addr} {a b : List Nd} {c1 c2 bo g cg bt T ct : Nat} (h : KpS w0 A B a b c1 c2 bo g cg bt T ct w) (hb : Below w.heap.size w w') : KpS w0 A B a b c1 c2 bo g cg bt T ct w' := ⟨h.i.later hb, h.o.later hb, h.t.later hb, h.room.later hb⟩
/-- What region 8 keeps. -/
structure Kp8 (w16 : World) (w0 : World) (A B : Option Addr) (a b : List Nd) (c1 c2 : Nat) (bo g cg bt T ct : Nat) (w : World) : Prop where
  k : KpS w0 A B a b c1 c2 bo g cg bt T ct w
  bel : Below w16.heap.size w16 w
theorem Kp8.later {w16 w0 w w' : World} {A B : Option Addr} {a b : List Nd} {c1 c2 bo g cg bt T ct : Nat} (h : Kp8 w16 w0 A B a b c1 c2 bo g cg bt T ct w) (hb : Below w.heap.size w w') : Kp8 w16 w0 A B a b c1 c2 bo g cg bt T ct w' := ⟨h.k.later hb, h.bel.trans (hb.mono h.bel.size)⟩
def OwD (B : Nat) (l : List Nd) (v : Value) (w : World) : Prop := ∃ s, v = .agg #[s] ∧ OwnN w B s l
theorem OwD.later (B : Nat) (l : List Nd) (v : Value) (w w' : World) (h : OwD B l v w) (hb : Below w.heap.size w w') : OwD B l v w' := by obtain ⟨s, h1, h2⟩ := h; exact ⟨s, h1, h2.later hb⟩
def NewDx (B : Nat) (v : Value) (w : World) : Prop := ∃ b, v = .pointer (some ⟨b, 0, none⟩) ∧ Blk w b #[.slice none 0 0] 49 ∧ B ≤ b
theorem NewDx.later (B : Nat) (v : Value) (w w' : World) (h : NewDx B v w) (hb : Below w.heap.size w w') : NewDx B v w' := by obtain ⟨b, h1, h2, h3⟩ := h; exact ⟨b, h1, h2.later hb, h3⟩
set_option maxHeartbeats 64000000 in
set_option maxRecDepth 1000000 in
theorem nodekeeps_walk (a b : List Nd) (A B : Option Addr) (c1 c2 q : Nat) (hq : q < 65536) (hc1 : a.length ≤ c1) (hc2 : b.length ≤ c2) (hl : a.length ≤ 9223372036854775807) (hm : b.length ≤ 9223372036854775807) (htx : Txt a) (htm : Txt b) (w : World) (hrow : NRow w A a) (hrm : NRow w B b) (hT : U8T w) :
    Calls Tryd.prog 7 #[.agg #[.slice A a.length c1], .agg #[.slice B b.length c2], .int .u16 (q : Int)] w (Ans w (.bool true)) := by
  have HS0 := Lib.hid (NbS.new w A B a b c1 c2 hrow hrm hc1 hc2 hT)
  have HTX := Lib.hid htx
  have HTM := Lib.hid htm
  clear hrow hrm hT htx htm
  go_enter Tryd.func7, Tryd.ntmps7
  go_upto_region 1 with (fail)
  generalize (w.alloc (.cells #[.slice A a.length c1] 49)).alloc (.cells #[.slice B b.length c2] 49) = w1 at *
  have e0 := HS0.out.x.load
  have e1 := HS0.out.y.load
  go_wp2_with fail
  refine (awake4_any _ HS0.out.u8).mono ?_; rintro e w2 ⟨rfl, hb2⟩
  have HS2 := Lib.hid (HS0.out.later hb2)
  clear hb2 e0 e1 HS0
  have e0 := HS2.out.x.load
  have e1 := HS2.out.y.load
  have HF := Lib.hid (few_any a A c1 hl HTX.out _ HS2.out.x.row)
  cases hf : fewB a with
  | false =>
    rw [hf] at HF
    clear hf
    go_wp2_with fail
    refine HF.out.mono ?_; rintro e w3 ⟨rfl, hb3⟩
    have HS3 := Lib.hid (HS2.out.later hb3)
    clear hb3 e0 e1
    go_wp2_with fail
    refine (awake4_any _ HS3.out.u8).mono ?_; rintro e WZ ⟨rfl, hbz⟩
    have HFZ := Lib.hid (HS3.out.later hbz).bel
    clear hbz
    go_wp2
    go_ret
    exact ⟨rfl, HFZ.out⟩
  | true =>
    rw [hf] at HF
    have L1 := Lib.hid (few_txt hf).1
    clear hf
    go_wp2_with fail
    refine HF.out.mono ?_; rintro e w3 ⟨rfl, hb3⟩
    have HS3 := Lib.hid (HS2.out.later hb3)
    clear hb3 e0 e1 HS2 HF
    have e0 := HS3.out.x.load
    have e1 := HS3.out.y.load
    have HF := Lib.hid (few_any b B c2 hm HTM.out _ HS3.out.y.row)
    cases hf : fewB b with
    | false =>
      rw [hf] at HF
      clear hf
      go_wp2_with fail
      refine HF.out.mono ?_; rintro e w4 ⟨rfl, hb4⟩
      have HS4 := Lib.hid (HS3.out.later hb4)
      clear hb4 e0 e1
      go_wp2_with fail
      refine (awake4_any _ HS4.out.u8).mono ?_; rintro e WZ ⟨rfl, hbz⟩
      have HFZ := Lib.hid (HS4.out.later hbz).bel
      clear hbz
      go_wp2
      go_ret
      exact ⟨rfl, HFZ.out⟩
    | true =>
      rw [hf] at HF
      have L2 := Lib.hid (few_txt hf).1
      clear hf
      go_wp2_with fail
      refine HF.out.mono ?_; rintro e w4 ⟨rfl, hb4⟩
      have HS4 := Lib.hid (HS3.out.later hb4)
      clear hb4 e0 e1 HS3 HF
      have e0 := HS4.out.x.load
      have e1 := HS4.out.y.load
      have HF := Lib.hid (refform_any a A c1 (by have := L1.out; omega) HTX.out _ HS4.out.x.row)
      cases hf : formB a with
      | false =>
        rw [hf] at HF
        clear hf
        go_wp2_with fail
        refine HF.out.mono ?_; rintro e w5 ⟨rfl, hb5⟩
        have HS5 := Lib.hid (HS4.out.later hb5)
        clear hb5 e0 e1
        go_wp2_with fail
        refine (awake4_any _ HS5.out.u8).mono ?_; rintro e WZ ⟨rfl, hbz⟩
        have HFZ := Lib.hid (HS5.out.later hbz).bel
        clear hbz
        go_wp2
        go_ret
        exact ⟨rfl, HFZ.out⟩
      | true =>
        rw [hf] at HF
        have HFA := Lib.hid ((formB_iff a).1 hf)
        clear hf
        go_wp2_with fail
        refine HF.out.mono ?_; rintro e w5 ⟨rfl, hb5⟩
        have HS5 := Lib.hid (HS4.out.later hb5)
        clear hb5 e0 e1 HS4 HF
        have e0 := HS5.out.x.load
        have e1 := HS5.out.y.load
        have HF := Lib.hid (refform_any b B c2 (by have := L2.out; omega) HTM.out _ HS5.out.y.row)
        cases hf : formB b with
        | false =>
          rw [hf] at HF
          clear hf
          go_wp2_with fail
          refine HF.out.mono ?_; rintro e w6 ⟨rfl, hb6⟩
          have HS6 := Lib.hid (HS5.out.later hb6)
          clear hb6 e0 e1
          go_wp2_with fail
          refine (awake4_any _ HS6.out.u8).mono ?_; rintro e WZ ⟨rfl, hbz⟩
          have HFZ := Lib.hid (HS6.out.later hbz).bel
          clear hbz
          go_wp2
          go_ret
          exact ⟨rfl, HFZ.out⟩
        | true =>
          rw [hf] at HF
          have HFB := Lib.hid ((formB_iff b).1 hf)
          clear hf
          have hpa : 0 < a.length := HFA.out.1
          have hpb : 0 < b.length := HFB.out.1
          obtain ⟨A0, oA, rfl, -, -⟩ := HS5.out.x.row 0 hpa
          obtain ⟨B0, oB, rfl, -, -⟩ := HS5.out.y.row 0 hpb
          go_wp2_with fail
          refine HF.out.mono ?_; rintro e w6 ⟨rfl, hb6⟩
          have HS6 := Lib.hid (HS5.out.later hb6)
          clear hb6 e0 e1 HS5 HF
          have hla : a.length ≤ 100 := L1.out
          have hlb : b.length ≤ 100 := L2.out
          have hba := (Below.refl w6.heap.size w6).alloc (Nat.le_refl _) (.cells #[] 59)
          have HS7 := Lib.hid (HS6.out.later hba)
          have HE := Lib.hid (OwnN.empty (Blk.new w6 #[] 59) (Nat.le_refl w6.heap.size))
          have hlen1 : ([] : List Nd).length + a.length < 1073741824 := by simp; omega
          have hlen2 : a.length < 1073741824 := by omega
          have hlow := hba.size
          have HBA := Lib.hid hba
          clear hba
          have e0 := HS6.out.x.load
          have e1 := HS6.out.y.load
          have e0' := HS7.out.x.load
          have e1' := HS7.out.y.load
          go_upto_region 4 with (at_builtin; first | (refine wpList_append_nrow rfl _ _ rfl w6.heap.size _ _ rfl HE.out A0 oA _ a rfl HS7.out.x.row hlen1 hlow ?_; intro v7 w7 ho7 hb7; have HO7 : Hid (OwnN w7 w6.heap.size v7 a) := ho7; have HB7 := Lib.hid (HBA.out.trans (hb7 _ (Nat.le_refl _))); have HL7 := Lib.hid (Nat.le_trans hlow (hb7 _ (Nat.le_refl _)).size); clear ho7 hb7; have hb8 := (Below.refl w7.heap.size w7).alloc (Nat.le_refl _) (.cells (ndC n77) 59); have HO8 := Lib.hid (HO7.out.later hb8); have HB8 := Lib.hid (HB7.out.trans (hb8.mono HL7.out)); have HK8 := Lib.hid (Blk.new w7 (ndC n77) 59); have hl8 := Nat.le_trans HL7.out hb8.size; rw [n77_cells] at HO8 HB8 HK8 hl8; clear hb8) | (refine wpList_append_nd rfl _ _ rfl w6.heap.size _ a rfl HO8.out w7.heap.size n77 rfl (n77_cells ▸ HK8.out) hlen2 hl8 ?_; intro v9 w9 ho9 hb9; have HO9 := Lib.hid ho9; have HB9 := Lib.hid (HB8.out.trans (hb9 _ (Nat.le_refl _))); clear ho9 hb9))
          clear e0 e1 e0' e1' HO8 HB8 HK8 hl8 HO7 HB7 HL7 HE HS7 HBA hlow hlen1
          obtain ⟨g, cg, cur9, hv9, hcap9, hbg, -, -, -⟩ := HO9.out.blk (by simp)
          subst hv9
          have HRM : Hid (NRow w9 (some ⟨g, 0, none⟩) (a ++ [n77])) := by
            obtain ⟨a', c', e', h'⟩ := HO9.out.row
            cases e'; exact h'
          have hcg : a.length ≤ cg := by rw [List.length_append] at hcap9; omega
          have hcgz : (a.length : Int) ≤ (cg : Int) := by omega
          have HS9 := Lib.hid (HS6.out.later HB9.out)
          have e0 := HS9.out.x.load
          have e1 := HS9.out.y.load
          have hba := (Below.refl w9.heap.size w9).alloc (Nat.le_refl _) (.cells #[.slice (some ⟨g, 0, none⟩) a.length cg] 49)
          have HS10 := Lib.hid (HS9.out.later hba)
          have HR10 := Lib.hid (HRM.out.later hba)
          have HO10 : Hid (Bx w9.heap.size (some ⟨g, 0, none⟩) a cg (w9.alloc (.cells #[.slice (some ⟨g, 0, none⟩) a.length cg] 49))) := ⟨Blk.new _ _ _, HRM.out.front.later hba, hcg⟩
          clear hba hcap9 HO9 HB9 HS6 hbg
          go_upto_region 5 with (fail)
          clear e0 e1 HS9 HRM
          generalize w9.alloc (.cells #[.slice (some ⟨g, 0, none⟩) a.length cg] 49) = w10 at *
          generalize w9.heap.size = bo at *
          have hba := (Below.refl w10.heap.size w10).alloc (Nat.le_refl _) (.cells #[] 59)
          have HS11 := Lib.hid (HS10.out.later hba)
          have HE := Lib.hid (OwnN.empty (Blk.new w10 #[] 59) (Nat.le_refl w10.heap.size))
          have hlen1 : ([] : List Nd).length + b.length < 1073741824 := by simp; omega
          have hlow := hba.size
          have HBA := Lib.hid hba
          clear hba
          have e0 := HS10.out.x.load
          have e1 := HS10.out.y.load
          have e0' := HS11.out.x.load
          have e1' := HS11.out.y.load
          go_upto_region 6 with (at_builtin; refine wpList_append_nrow rfl _ _ rfl w10.heap.size _ _ rfl HE.out B0 oB _ b rfl HS11.out.y.row hlen1 hlow ?_; intro v12 w12 ho12 hb12; have HO12 : Hid (OwnN w12 w10.heap.size v12 b) := ho12; have HB12 := Lib.hid (HBA.out.trans (hb12 _ (Nat.le_refl _))); clear ho12 hb12; obtain ⟨T, ct, cur12, hv12, hcap12, -, -, -, -⟩ := HO12.out.blk hpb; subst hv12)
          have HRT : Hid (NRow w12 (some ⟨T, 0, none⟩) b) := by
            obtain ⟨a', c', e', h'⟩ := HO12.out.row
            cases e'; exact h'
          have hba := (Below.refl w12.heap.size w12).alloc (Nat.le_refl _) (.cells #[.slice (some ⟨T, 0, none⟩) b.length ct] 49)
          have HK : Hid (KpS w (some ⟨A0, oA, none⟩) (some ⟨B0, oB, none⟩) a b c1 c2 bo g cg w12.heap.size T ct (w12.alloc (.cells #[.slice (some ⟨T, 0, none⟩) b.length ct] 49))) := ⟨(HS10.out.later HB12.out).later hba, (HO10.out.later HB12.out).later hba, ⟨Blk.new _ _ _, HRT.out.later hba, hcap12⟩, (HR10.out.later HB12.out).later hba⟩
          clear hba e0 e1 e0' e1' HS10 HO10 HR10 HS11 HE HBA hlow hlen1 HRT HB12 HO12
          generalize w12.alloc (.cells #[.slice (some ⟨T, 0, none⟩) b.length ct] 49) = wB at *
          generalize w12.heap.size = bt at *
          have MA := Lib.hid (HFA.out.mvOk HTX.out (by omega) (d := 0) (by omega) (by omega))
          have MB := Lib.hid (HFB.out.mvOk HTM.out (by omega) (d := (a.length : Int)) (by omega) (by omega))
          have e2 := HK.out.o.load
          have e3 := HK.out.t.load
          go_wp2_with fail
          refine (IsD.pair HK.out.o.isD HK.out.t.isD 4 hpa hpb (by omega) (by omega) MA.out MB.out).mono ?_; intro e w13 hp; obtain ⟨sv, rfl, ho, hb13⟩ := hp
          obtain ⟨gx, cx, curx, hvx, -, hlx, hkx, hszx, -⟩ := ho.blk (by rw [pair_len]; omega)
          subst hvx
          have hbx := (Below.refl w13.heap.size w13).alloc (Nat.le_refl _) (.cells #[.slice (some ⟨gx, 0, none⟩) (pairL 4 a b).length cx] 49)
          have HX14 : Hid (RowB gx (pairL 4 a b).length (w13.alloc (.cells #[.slice (some ⟨gx, 0, none⟩) (pairL 4 a b).length cx] 49))) := (show RowB gx _ w13 from ⟨curx, hkx, hszx⟩).later hbx
          have HXB : Hid (BoxB w13.heap.size gx (pairL 4 a b).length cx (w13.alloc (.cells #[.slice (some ⟨gx, 0, none⟩) (pairL 4 a b).length cx] 49))) := Blk.new _ _ _
          have HB14 := Lib.hid (hb13.trans (hbx.mono hb13.size))
          have HLX := Lib.hid hlx
          obtain ⟨nx, hnx⟩ : ∃ nx, nx = (pairL 4 a b).length := ⟨_, rfl⟩
          have hnxl : nx ≤ 201 := by rw [hnx, pair_len]; omega
          rw [← hnx] at HX14 HXB HB14 ⊢
          clear hbx hb13 ho hkx hszx hlx hnx e2 e3
          go_upto_region 7 with (fail)
          generalize w13.alloc (.cells #[.slice (some ⟨gx, 0, none⟩) nx cx] 49) = w14 at *
          generalize w13.heap.size = bx at *
          have HK14 := Lib.hid (HK.out.later HB14.out)
          have e2 := HK14.out.o.load
          have e3 := HK14.out.t.load
          go_wp2_with fail
          refine (IsD.wrap HK14.out.o.isD 6 0 0 hpa (by omega) MA.out).mono ?_; intro e w15 hp; obtain ⟨sv, rfl, ho, hb15⟩ := hp
          obtain ⟨gy, cy, cury, hvy, -, hly, hky, hszy, -⟩ := ho.blk (by rw [wrap_len]; omega)
          subst hvy
          have hby := (Below.refl w15.heap.size w15).alloc (Nat.le_refl _) (.cells #[.slice (some ⟨gy, 0, none⟩) (wrapL 6 0 0 a).length cy] 49)
          have HY16 : Hid (RowB gy (wrapL 6 0 0 a).length (w15.alloc (.cells #[.slice (some ⟨gy, 0, none⟩) (wrapL 6 0 0 a).length cy] 49))) := (show RowB gy _ w15 from ⟨cury, hky, hszy⟩).later hby
          have HYB : Hid (BoxB w15.heap.size gy (wrapL 6 0 0 a).length cy (w15.alloc (.cells #[.slice (some ⟨gy, 0, none⟩) (wrapL 6 0 0 a).length cy] 49))) := Blk.new _ _ _
          have hb1415 := hb15.trans (hby.mono hb15.size)
          have HB16 := Lib.hid (HB14.out.trans (hb1415.mono HB14.out.size))
          have HX16 := Lib.hid (HX14.out.later hb1415)
          have HXB16 : Hid (BoxB bx gx nx cx (w15.alloc (.cells #[.slice (some ⟨gy, 0, none⟩) (wrapL 6 0 0 a).length cy] 49))) := Blk.later HXB.out hb1415
          have HLY : Hid (gx < gy) := Nat.lt_of_lt_of_le HX14.out.lt hly
          obtain ⟨ny, hny⟩ : ∃ ny, ny = (wrapL 6 0 0 a).length := ⟨_, rfl⟩
          have hnyl : ny ≤ 101 := by rw [hny, wrap_len]; omega
          rw [← hny] at HY16 HYB HB16 HX16 HXB16 ⊢
          clear hby hb1415 hb15 ho hky hszy hly hny e2 e3 HX14 HXB HB14 HK14
          go_upto_region 8 with (fail)
          generalize w15.alloc (.cells #[.slice (some ⟨gy, 0, none⟩) ny cy] 49) = w16 at *
          generalize w15.heap.size = by_ at *
          have HK16 := Lib.hid (HK.out.later HB16.out)
          have hne : ((a.length : Int) == 0) = false := by rw [beq_eq_false_iff_ne]; omega
          have hnil : ¬ a = [] := List.ne_nil_of_length_pos hpa
          have hmod : (q : Int) % (a.length : Int) = ((q % a.length : Nat) : Int) := by omega
          have hil : q % a.length < a.length := Nat.mod_lt _ hpa
          have hsl : 0 < (subL a (q % a.length)).length := by rw [subL_length hil]; have := firstP_le a (q % a.length); omega
          have hsl2 : (subL a (q % a.length)).length ≤ 100 := by rw [subL_length hil]; omega
          have FZ : Hid (∀ w', Kp8 w16 w (some ⟨A0, oA, none⟩) (some ⟨B0, oB, none⟩) a b c1 c2 bo g cg bt T ct w' → Calls Tryd.prog 33 #[.agg #[.slice (some ⟨g, 0, none⟩) a.length cg], .int .i64 ((q % a.length : Nat) : Int)] w' (DPost w' (subL a (q % a.length)))) := fun w' h =>
            sub_any a (some ⟨g, 0, none⟩) cg (q % a.length) hcg hil (by omega) (HFA.out.okTo hil) HTX.out w' h.k.o.row
          generalize hii : q % a.length = i at *
          clear hii
          generalize subL a i = Z at *
          refine wp_region_stable_last (S := (Kp8 w16 w (some ⟨A0, oA, none⟩) (some ⟨B0, oB, none⟩) a b c1 c2 bo g cg bt T ct)) (hSt := fun _ _ h hb => h.later hb) (plan := [[(8, none)], [(2, none)], [(63, some 1)], [(3, none)], [(65, some 3)], [(66, some 4)], [(64, some 2), (67, some 5)], [(62, some 0), (68, some 6)], []]) rfl (by kernel_rfl) (by kernel_rfl) (by kernel_rfl) (by kernel_rfl) ?hS ?_
          rotate_left
          simp only [List.dropLast]
          iterate 7 first
            | (refine chain_skip (by rfl) (by rfl) ?_)
            | (apply chain_want (by rfl)
               · intro act wx hS hr
                 simp at hr
                 have e0 := hS.k.i.x.load
                 have e2 := hS.k.o.load
                 go_simp
                 (try go_ints)
                 first
                   | (rw [hmod]; exact Done.same)
                   | exact Done.same
              )
          (refine chain_rel (OwD w16.heap.size Z) (OwD.later w16.heap.size Z) (by rfl) ?_ ?_
           · intro act wx hS hr
             simp at hr
             have e0 := hS.k.i.x.load
             have e2 := hS.k.o.load
             all_goals go_simp
             ((with_reducible refine (FZ.out _ hS).mono ?_); intro e w' hp; obtain ⟨v, rfl, ho, hb⟩ := hp; exact Done.rel hb ⟨_, rfl, ho.base hS.bel.size⟩)
          )
          (refine chain_rel (NewDx w16.heap.size) (NewDx.later w16.heap.size) (by rfl) ?_ ?_
           · intro act wx hS hr
             simp at hr
             have e0 := hS.k.i.x.load
             have e2 := hS.k.o.load
             all_goals go_simp
             exact Done.rel ((Below.refl _ _).alloc (Nat.le_refl _) _) ⟨_, rfl, Blk.new _ _ _, hS.bel.size⟩
          )
          show ∀ w', _ → _
          intro wz hz
          simp [Act.put]
          case hS => exact ⟨HK16.out, Below.refl _ _⟩
          intro v7 hv7 v8 hv8
          obtain ⟨sz, rfl, hoz⟩ := hv7
          obtain ⟨bz, rfl, hbz, hlz⟩ := hv8
          obtain ⟨gz, cz, curz, hvz, -, hlgz, hkz, hszz, -⟩ := hoz.blk hsl
          subst hvz
          obtain ⟨nz, hnz⟩ : ∃ nz, nz = Z.length := ⟨_, rfl⟩
          rw [← hnz] at hszz hsl2 ⊢
          have r0 := hbz.cell 0
          simp at r0
          have rf := hbz.frozen
          have hfin : Below w16.heap.size w16 (wz.setCell ⟨bz, 0, none⟩ (.slice (some ⟨gz, 0, none⟩) nz cz)) := hz.bel.setCell (p := ⟨bz, 0, none⟩) hlz _
          have HZR : Hid (RowB gz nz (wz.setCell ⟨bz, 0, none⟩ (.slice (some ⟨gz, 0, none⟩) nz cz))) := (show RowB gz nz wz from ⟨curz, hkz, hszz⟩).set_ne (a := ⟨bz, 0, none⟩) (hbz.typed hkz (by decide)) _
          have HZB : Hid (BoxB bz gz nz cz (wz.setCell ⟨bz, 0, none⟩ (.slice (some ⟨gz, 0, none⟩) nz cz))) := hbz.setCell 0 (.slice (some ⟨gz, 0, none⟩) nz cz)
          have HXX : Hid (BoxB bx gx nx cx (wz.setCell ⟨bz, 0, none⟩ (.slice (some ⟨gz, 0, none⟩) nz cz))) := Blk.later HXB16.out hfin
          have HYY : Hid (BoxB by_ gy ny cy (wz.setCell ⟨bz, 0, none⟩ (.slice (some ⟨gz, 0, none⟩) nz cz))) := Blk.later HYB.out hfin
          have H3 : Hid (Kp3 wB bx gx nx cx by_ gy ny cy bz gz nz cz (wz.setCell ⟨bz, 0, none⟩ (.slice (some ⟨gz, 0, none⟩) nz cz))) :=
            ⟨HB16.out.trans (hfin.mono HB16.out.size), HXX.out, HX16.out.later hfin, HYY.out, HY16.out.later hfin, HZB.out, HZR.out, HLX.out, HLY.out, Nat.lt_of_lt_of_le HY16.out.lt hlgz⟩
          clear hfin hz hoz hkz hszz hlz hlgz hbz HZR HZB HXX HYY hnz hsl HB16 HXB16 HYB HX16 HY16 HLX HLY HK16 FZ hmod hne hnil
          go_upto_region 9 with (fail)
          generalize wz.setCell ⟨bz, 0, none⟩ (.slice (some ⟨gz, 0, none⟩) nz cz) = w20 at *
          clear r0 rf
          go_wp2
          go_loopw [13] (KpL wB bx gx nx cx by_ gy ny cy bz gz nz cz nx) (fun i _ => nx - (intOf i).toNat)
          case atStart => exact ⟨0, Nat.zero_le _, rfl, H3.out⟩
          case round =>
            obtain ⟨k, hk, rfl, h3⟩ := hrel
            have H3' := Lib.hid h3
            clear H3 h3
            have H3 := H3'
            clear H3'
            have ex : _ = some _ := Blk.cell H3.out.xb 0
            simp at ex
            by_cases hlt : k < nx
            · have hltz : (k : Int) < (nx : Int) := by omega
              obtain ⟨⟨u, hu⟩, hf⟩ := H3.out.xr.at hlt
              have HN := Lib.hid (H3.out.setx (k * 10) (.int .i64 99))
              go_wp2
              go_roundw
              case rel => exact ⟨k + 1, by omega, by go_num, HN.out⟩
              case measure => simp [intOf]; omega
            · have hltz : ¬ (k : Int) < (nx : Int) := by omega
              clear hlt hk
              go_wp2
              clear ex
              generalize wr = wr1 at *
              go_loopw [14] (KpL wB bx gx nx cx by_ gy ny cy bz gz nz cz ny) (fun i _ => ny - (intOf i).toNat)
              case atStart => exact ⟨0, Nat.zero_le _, rfl, H3.out⟩
              case round =>
                obtain ⟨k, hk, rfl, h3⟩ := hrel
                have H3' := Lib.hid h3
                clear H3 h3
                have H3 := H3'
                clear H3'
                have ex : _ = some _ := Blk.cell H3.out.yb 0
                simp at ex
                by_cases hlt : k < ny
                · have hltz : (k : Int) < (ny : Int) := by omega
                  obtain ⟨⟨u, hu⟩, hf⟩ := H3.out.yr.at hlt
                  have HN := Lib.hid (H3.out.sety (k * 10) (.int .i64 99))
                  go_wp2
                  go_roundw
                  case rel => exact ⟨k + 1, by omega, by go_num, HN.out⟩
                  case measure => simp [intOf]; omega
                · have hltz : ¬ (k : Int) < (ny : Int) := by omega
                  clear hlt hk
                  go_wp2
                  clear ex
                  generalize wr = wr2 at *
                  go_loopw [15] (KpL wB bx gx nx cx by_ gy ny cy bz gz nz cz nz) (fun i _ => nz - (intOf i).toNat)
                  case atStart => exact ⟨0, Nat.zero_le _, rfl, H3.out⟩
                  case round =>
                    obtain ⟨k, hk, rfl, h3⟩ := hrel
                    have H3' := Lib.hid h3
                    clear H3 h3
                    have H3 := H3'
                    clear H3'
                    have ex : _ = some _ := Blk.cell H3.out.zb 0
                    simp at ex
                    by_cases hlt : k < nz
                    · have hltz : (k : Int) < (nz : Int) := by omega
                      obtain ⟨⟨u, hu⟩, hf⟩ := H3.out.zr.at hlt
                      have HN := Lib.hid (H3.out.setz (k * 10) (.int .i64 99))
                      go_wp2
                      go_roundw
                      case rel => exact ⟨k + 1, by omega, by go_num, HN.out⟩
                      case measure => simp [intOf]; omega
                    · have hltz : ¬ (k : Int) < (nz : Int) := by omega
                      clear hlt hk
                      have HKE := Lib.hid (HK.out.later H3.out.bel)
                      have HFA2 := Lib.hid (HKE.out.o.isD.rsameT HKE.out.i.x.isD (by omega))
                      have e0 := HKE.out.i.x.load
                      have e1 := HKE.out.i.y.load
                      have e2 := HKE.out.o.load
                      have e3 := HKE.out.t.load
                      go_wp2_with fail
                      refine HFA2.out.mono ?_; rintro e w31 ⟨rfl, hb31⟩
                      have HKF := Lib.hid (HKE.out.later hb31)
                      have HFB2 := Lib.hid (HKF.out.t.isD.rsameT HKF.out.i.y.isD (by omega))
                      clear e0 e1 e2 e3 hb31 ex
                      have e0 := HKF.out.i.x.load
                      have e1 := HKF.out.i.y.load
                      have e2 := HKF.out.o.load
                      have e3 := HKF.out.t.load
                      go_wp2_with fail
                      refine HFB2.out.mono ?_; rintro e w32 ⟨rfl, hb32⟩
                      have HKG := Lib.hid (HKF.out.later hb32)
                      have g77 : At10 w32 g (0 + a.length * 10) ((a ++ [n77]).getD a.length nd0) := HKG.out.room.at (by simp) rfl
                      have e77 : (a ++ [n77]).getD a.length nd0 = n77 := by rw [List.getD_eq_getElem?_getD, List.getElem?_append_right (Nat.le_refl _), Nat.sub_self]; rfl
                      rw [e77] at g77
                      unfold At10 at g77
                      obtain ⟨g0, -⟩ := g77
                      simp only [Nat.zero_add, n77] at g0
                      clear e0 e1 e2 e3 hb32 e77
                      have e0 := HKG.out.i.x.load
                      have HF := Lib.hid HKG.out.i.bel
                      have hz77 : (a.length : Int) < (a.length : Int) + 1 := by omega
                      go_wp2
                      go_ret
                      exact ⟨by first | rfl | simp, HF.out⟩
end Go.Proofs.YtgehepiphdphjaaDoor
