/- The statement CountFinds of layer 12, walked, for a value of bounded size. -/
import Derived.Test.YtpbbokdmoaadfaaM40
import Derived.Test.YtpbbokdmoaadfaaM32
namespace Go.Proofs.Ytpbbokdmoaadfaa
set_option maxHeartbeats 64000000
set_option maxRecDepth 1000000
set_option linter.all false
open Go Go.RowKit
def CfT (r : Option Wd) (x : Value) (w : World) : Prop := ∃ sv, x = .tuple #[sv, .bool r.isSome] /\ IsW (r.getD []) sv w
theorem CfT.later (r : Option Wd) : ∀ v w w', CfT r v w -> Below w.heap.size w w' -> CfT r v w' := fun v w w' ⟨sv, h1, h2⟩ hb => ⟨sv, h1, h2.later hb⟩
theorem TupW.cfT {r : Option Wd} {x : Value} {w : World} (h : TupW r x w) : CfT r x w := by
 obtain ⟨sv, h1, h2⟩ := h
 refine ⟨sv, h1, ?_⟩
 cases r with
 | none => exact .inl ⟨h2, rfl⟩
 | some W => exact h2
def CfP (w : World) (r : Option Wd) (e : Ending) (w' : World) : Prop := ∃ x, e = .returned x /\ CfT r x w' /\ Below w.heap.size w w'
def CfW (W : Wd) (u : Value) (w : World) : Prop := IsW W u w
theorem CfW.later (W : Wd) : ∀ u w w', CfW W u w -> Below w.heap.size w w' -> CfW W u w' := fun u w w' h hb => IsW.later h hb
theorem cf_bytes (l m : List Nat) (v u : Value) (w : World) (hv : IsBytes l v w) (hu : IsBytes m u w) (hl : l.length < 1073741824) (hm : m.length < 1073741824) : Calls Try.prog 19 #[v, u] w (Ans w (.bool (l == m))) := by
 obtain ⟨a, c1, rfl, h1⟩ := hv
 obtain ⟨b, c2, rfl, h2⟩ := hu
 exact refbytes_any l m a b c1 c2 w h1 h2 hl hm
theorem cf_same {a b : Vl} {u v : Value} {w : World} (h : cntV a <= 100000000) (hu : IsV w u a) (hv : IsV w v b) : Calls Try.prog 17 #[u, v] w (Ans w (.bool (sameV a b))) :=
 rsame_any a b (by have := cntVs_len a.kids; unfold cntV at h; omega) (fun x hx => by have := cntVs_len x.kids; unfold cntV at hx h; omega) u v w hu hv
structure CfS (w0 : World) (A : Option Addr) (l : List Nd) (c : Nat) (v : Vl) (B : Option Addr) (cv : Nat) (Aw : Option Addr) (cw : Nat) (W : Wd) (w : World) : Prop where
 bel : Below w0.heap.size w0 w
 row : NRow w A l
 box : Blk w w0.heap.size #[.slice A l.length c] 24
 bv : Blk w (w0.heap.size + 1) (vlC v B cv) 32
 rv : VRow w B 0 v.kids
 wd : W.length <= 8 -> IsW W (.slice Aw W.length cw) w
section
variable {w0 w w' : World} {A : Option Addr} {l : List Nd} {c : Nat} {v : Vl} {B : Option Addr} {cv : Nat} {Aw : Option Addr} {cw : Nat} {W : Wd} (h : CfS w0 A l c v B cv Aw cw W w)
include h
theorem CfS.later (hb : Below w.heap.size w w') : CfS w0 A l c v B cv Aw cw W w' := ⟨h.bel.trans (hb.mono h.bel.size), h.row.later hb, h.box.later hb, h.bv.later hb, h.rv.later hb, fun k => (h.wd k).later hb⟩
theorem CfS.isD (hc : l.length <= c) : IsD l (.agg #[.slice A l.length c]) w := ⟨A, c, hc, rfl, h.row⟩
theorem CfS.isV (hc : v.kids.len <= cv) : IsV w (.agg (vlC v B cv)) v := ⟨B, cv, hc, rfl, h.rv⟩
end
theorem CfS.new (w : World) (A : Option Addr) (l : List Nd) (c : Nat) (v : Vl) (B : Option Addr) (cv : Nat) (Aw : Option Addr) (cw : Nat) (W : Wd) (h : NRow w A l) (k : VRow w B 0 v.kids) (hw : WdA w Aw cw W) :
 CfS w A l c v B cv Aw cw W ((w.alloc (.cells #[.slice A l.length c] 24)).alloc (.cells (vlC v B cv) 32)) := by
 have HB := ((Below.refl w.heap.size w).alloc (Nat.le_refl _) (.cells #[.slice A l.length c] 24)).alloc (by simp) (.cells (vlC v B cv) 32)
 exact ⟨HB, h.later HB, (Blk.new w _ _).alloc _, Blk.new' (by simp) _ _, k.later HB, fun k => (hw.2 (by omega)).later HB⟩
structure CfV (w0 : World) (A : Option Addr) (l : List Nd) (c : Nat) (v : Vl) (B : Option Addr) (cv : Nat) (Aw : Option Addr) (cw : Nat) (W : Wd) (A7 : Option Addr) (L : List Vl) (w : World) : Prop where
 s : CfS w0 A l c v B cv Aw cw W w
 r : VRow w A7 0 (Vs.of L)
theorem CfV.later {w0 w w' : World} {A : Option Addr} {l : List Nd} {c : Nat} {v : Vl} {B : Option Addr} {cv : Nat} {Aw : Option Addr} {cw : Nat} {W : Wd} {A7 : Option Addr} {L : List Vl} (h : CfV w0 A l c v B cv Aw cw W A7 L w) (hb : Below w.heap.size w w') : CfV w0 A l c v B cv Aw cw W A7 L w' := ⟨h.s.later hb, h.r.later hb⟩
structure CfE (w0 : World) (A : Option Addr) (l : List Nd) (c : Nat) (v : Vl) (B : Option Addr) (cv : Nat) (Aw : Option Addr) (cw : Nat) (W : Wd) (A7 : Option Addr) (L : List Vl) (g o : Nat) (y : Vl) (Y : Option Addr) (cy : Nat) (w : World) : Prop where
 s : CfV w0 A l c v B cv Aw cw W A7 L w
 y : ElS g o y Y cy w
theorem CfE.later {w0 w w' : World} {A : Option Addr} {l : List Nd} {c : Nat} {v : Vl} {B : Option Addr} {cv : Nat} {Aw : Option Addr} {cw : Nat} {W : Wd} {A7 : Option Addr} {L : List Vl} {g o : Nat} {y : Vl} {Y : Option Addr} {cy : Nat} (h : CfE w0 A l c v B cv Aw cw W A7 L g o y Y cy w) (hb : Below w.heap.size w w') : CfE w0 A l c v B cv Aw cw W A7 L g o y Y cy w' := ⟨h.s.later hb, h.y.later hb⟩
structure CfF (w0 : World) (A : Option Addr) (l : List Nd) (c : Nat) (v : Vl) (B : Option Addr) (cv : Nat) (Aw : Option Addr) (cw : Nat) (W : Wd) (A7 : Option Addr) (L : List Vl) (g o : Nat) (y : Vl) (Y : Option Addr) (cy o2 : Nat) (z : Vl) (Z : Option Addr) (cz : Nat) (w : World) : Prop where
 s : CfV w0 A l c v B cv Aw cw W A7 L w
 y : ElS g o y Y cy w
 z : ElS g o2 z Z cz w
theorem CfF.later {w0 w w' : World} {A : Option Addr} {l : List Nd} {c : Nat} {v : Vl} {B : Option Addr} {cv : Nat} {Aw : Option Addr} {cw : Nat} {W : Wd} {A7 : Option Addr} {L : List Vl} {g o : Nat} {y : Vl} {Y : Option Addr} {cy o2 : Nat} {z : Vl} {Z : Option Addr} {cz : Nat} (h : CfF w0 A l c v B cv Aw cw W A7 L g o y Y cy o2 z Z cz w) (hb : Below w.heap.size w w') : CfF w0 A l c v B cv Aw cw W A7 L g o y Y cy o2 z Z cz w' := ⟨h.s.later hb, h.y.later hb, h.z.later hb⟩
structure CfX (w0 : World) (A : Option Addr) (l : List Nd) (c : Nat) (v : Vl) (B : Option Addr) (cv : Nat) (Aw : Option Addr) (cw : Nat) (W : Wd) (X : Wd) (x : Value) (w : World) : Prop where
 s : CfS w0 A l c v B cv Aw cw W w
 x : IsW X x w
theorem CfX.later {w0 w w' : World} {A : Option Addr} {l : List Nd} {c : Nat} {v : Vl} {B : Option Addr} {cv : Nat} {Aw : Option Addr} {cw : Nat} {W X : Wd} {x : Value} (h : CfX w0 A l c v B cv Aw cw W X x w) (hb : Below w.heap.size w w') : CfX w0 A l c v B cv Aw cw W X x w' := ⟨h.s.later hb, h.x.later hb⟩
structure CfY (w0 : World) (A : Option Addr) (l : List Nd) (c : Nat) (v : Vl) (B : Option Addr) (cv : Nat) (Aw : Option Addr) (cw : Nat) (W : Wd) (X : Wd) (x : Value) (g o : Nat) (y : Vl) (Y : Option Addr) (cy : Nat) (w : World) : Prop where
 s : CfX w0 A l c v B cv Aw cw W X x w
 y : ElS g o y Y cy w
theorem CfY.later {w0 w w' : World} {A : Option Addr} {l : List Nd} {c : Nat} {v : Vl} {B : Option Addr} {cv : Nat} {Aw : Option Addr} {cw : Nat} {W X : Wd} {x : Value} {g o : Nat} {y : Vl} {Y : Option Addr} {cy : Nat} (h : CfY w0 A l c v B cv Aw cw W X x g o y Y cy w) (hb : Below w.heap.size w w') : CfY w0 A l c v B cv Aw cw W X x g o y Y cy w' := ⟨h.s.later hb, h.y.later hb⟩
def CflL (w0 : World) (A : Option Addr) (l : List Nd) (c : Nat) (v : Vl) (B : Option Addr) (cv : Nat) (Aw : Option Addr) (cw : Nat) (W : Wd) (A7 : Option Addr) (L : List Vl) (x8 : Value) (w : World) : Prop := ∃ k : Nat, k <= L.length /\ x8 = .int .i64 (k : Int) /\ CfV w0 A l c v B cv Aw cw W A7 L w
structure CfM (l : List Nd) (W : Wd) (L : List Vl) : Prop where
 len : L.length = wyD l W
 two : L.length <= 2
 wr : ∀ a ∈ L, wrD l a = some W /\ cntV a <= 128
 nd : L.Nodup
theorem cfM {l : List Nd} {W : Wd} (hF : Form l) (hn : l.length <= 16) (hw : W.length <= 8) : CfM l W ((EN l (l.length - 1) W).take 2) := by
 have hi : l.length - 1 < l.length := by have := hF.1; omega
 have hs := EN_sound hF hi
 refine ⟨vals_len hF, by rw [List.length_take]; omega, fun a ha => ?_, (List.take_sublist _ _).nodup (hs.2 W)⟩
 have h1 : wrD l a = some W := hs.1 W a (List.mem_of_mem_take ha)
 exact ⟨h1, wr_few hF hn hw h1⟩
theorem CfM.at_ {l : List Nd} {W : Wd} {L : List Vl} (h : CfM l W L) {k : Nat} (hk : k < L.length) : wrD l ((Vs.of L).at k) = some W /\ cntV ((Vs.of L).at k) <= 128 := by
 have h1 := Vs.at_get (s := Vs.of L) (i := k) (by rw [Vs.of_len]; exact hk)
 rw [Vs.list_of] at h1
 exact h.wr _ (List.mem_of_getElem? h1)
theorem cf_one {l : List Nd} {X : Wd} (hF : Form l) {v : Vl} (hv : wrD l v = some X) : (1 <= ((EN l (l.length - 1) X).take 2).length) /\ ∀ a, (EN l (l.length - 1) X).take 2 = [a] -> sameV a v = true := by
 have hi : l.length - 1 < l.length := by have := hF.1; omega
 have hp := (cnt_some hF hi).2 ⟨v, hv⟩
 refine ⟨by rw [vals_len hF, wyD_eq]; omega, fun a ha => ?_⟩
 have h1 : wyD l X = 1 := by rw [<- vals_len hF, ha]; rfl
 rw [wyD_eq] at h1
 have h2 : a ∈ EN l (l.length - 1) X := List.mem_of_mem_take (i := 2) (by rw [ha]; exact List.mem_singleton.2 rfl)
 exact sameV_t (one_alone hF hi (by omega) ((EN_sound hF hi).1 X a h2) hv)
theorem countfinds_walk (l : List Nd) (A : Option Addr) (c : Nat) (W : Wd) (Aw : Option Addr) (cw : Nat) (v : Vl) (x : Value) (hc1 : l.length <= c) (hl : l.length <= 9223372036854775807) (htx : Txt l) (hwl : W.length <= 9223372036854775807) (hv : cntV v <= 1048576) (w : World) (hrow : NRow w A l) (hwd : WdA w Aw cw W) (hx : IsV w x v) :
 Calls Try.prog 4 #[.agg #[.slice A l.length c], .slice Aw W.length cw, x] w (Ans w (.bool true)) := by
 obtain ⟨B, cv, hcv, rfl, hkv⟩ := hx
 have HS0 := Lib.hid (CfS.new w A l c v B cv Aw cw W hrow hkv hwd)
 have HTX := Lib.hid htx
 have FV : Hid (∀ w', CfS w A l c v B cv Aw cw W w' -> Calls Try.prog 15 #[.agg (vlC v B cv)] w' (Ans w' (.bool (fewV v)))) := fun w' h => rfewv_any v (by omega) _ w' (h.isV hcv)
 have CW : Hid (∀ w', Sc l -> l.length <= 100 -> (∀ n ∈ l, n.text.length <= 2000) -> CfS w A l c v B cv Aw cw W w' -> fewV v = true -> Calls Try.prog 18 #[.agg #[.slice A l.length c], .agg (vlC v B cv)] w' (CfP w' (wrD l v))) := fun w' h1 h0 h2 h h3 => (rwrite_any l A c h1.form hc1 (by omega) h2 v (by unfold fewV at h3; simp at h3; omega) _ w' h.row (h.isV hcv)).mono fun e w'' ⟨x, g1, g2, g3⟩ => ⟨x, g1, g2.cfT, g3⟩
 have CS : Hid (∀ (g o : Nat) (a : Vl) (Y : Option Addr) (cy : Nat) w', sameV a v = true -> cntV a <= 128 -> ElS g o a Y cy w' -> CfS w A l c v B cv Aw cw W w' -> Calls Try.prog 17 #[.agg (vlC a Y cy), .agg (vlC v B cv)] w' (Ans w' (.bool true))) := fun g o a Y cy w' h1 h2 h3 h4 => by
  have := cf_same (a := a) (b := v) (by omega) h3.isV (h4.isV hcv)
  rwa [h1] at this
 have HONE : Hid (Form l -> ∀ X, wrD l v = some X -> (1 <= ((EN l (l.length - 1) X).take 2).length) /\ ∀ a, (EN l (l.length - 1) X).take 2 = [a] -> sameV a v = true) := fun hF X h => cf_one hF h
 generalize fewV v = fv at *
 generalize wrD l v = r at *
 have hn9 : (W.length : Int) <= 9223372036854775807 := by omega
 have hcw : W.length <= cw := hwd.1
 clear hrow hkv htx hwd
 obtain ⟨vk, vb, vt, vp, ks⟩ := v
 rw [vlC_five] at *
 simp only at *
 have HSM : Hid (∀ a, sameV a ⟨vk, vb, vt, vp, ks⟩ = sameV a ⟨vk, vb, vt, vp, ks⟩) := fun _ => rfl
 go_enter Try.func4, Try.ntmps4
 go_upto_region 1 with (fail)
 generalize (w.alloc (.cells #[.slice A l.length c] 24)).alloc (.cells #[.int .i64 vk, .int .u8 ((vb.toNat : Nat) : Int), .string (bs vt), .int .i64 vp, .slice B ks.len cv] 32) = w1 at *
 go_wp2_with fail
 refine (awake12_any _).mono ?_; rintro e w2 ⟨rfl, hb⟩
 have HS2 := Lib.hid (HS0.out.later hb)
 clear hb HS0
 have d0 := HS2.out.box.cell 0
 simp at d0
 obtain ⟨b0, b1, b2, b3, b4⟩ := vl_cells HS2.out.bv
 have HF := Lib.hid (few_any l A c hl HTX.out _ HS2.out.row)
 cases hf : fewB l with
 | false =>
  rw [hf] at HF
  clear hf
  go_wp2_with fail
  refine HF.out.mono ?_; rintro e wa ⟨rfl, hb⟩
  have HSZ := Lib.hid (HS2.out.later hb)
  clear hb d0 b0 b1 b2 b3 b4 HF HS2
  go_wp2_with fail
  refine (awake12_any _).mono ?_; rintro e WN ⟨rfl, hb⟩
  have HSY := Lib.hid (HSZ.out.later hb)
  clear hb
  go_wp2
  go_ret
  exact ⟨rfl, HSY.out.bel⟩
 | true =>
  rw [hf] at HF
  have KF := Lib.hid hf
  clear hf
  go_wp2_with fail
  refine HF.out.mono ?_; rintro e w3 ⟨rfl, hb⟩
  have HS3 := Lib.hid (HS2.out.later hb)
  clear hb d0 b0 b1 b2 b3 b4 HF HS2
  have d0 := HS3.out.box.cell 0
  simp at d0
  obtain ⟨b0, b1, b2, b3, b4⟩ := vl_cells HS3.out.bv
  have HF := Lib.hid (rfits_any A Aw l.length c W.length cw w3 hl hwl)
  cases hf : fitsB l.length W.length with
  | false =>
   rw [hf] at HF
   clear hf
   go_wp2_with fail
   refine HF.out.mono ?_; rintro e wa ⟨rfl, hb⟩
   have HSZ := Lib.hid (HS3.out.later hb)
   clear hb d0 b0 b1 b2 b3 b4 HF HS3
   go_wp2_with fail
   refine (awake12_any _).mono ?_; rintro e WN ⟨rfl, hb⟩
   have HSY := Lib.hid (HSZ.out.later hb)
   clear hb
   go_wp2
   go_ret
   exact ⟨rfl, HSY.out.bel⟩
  | true =>
   rw [hf] at HF
   have KT := Lib.hid hf
   clear hf
   go_wp2_with fail
   refine HF.out.mono ?_; rintro e w4 ⟨rfl, hb⟩
   have HS4 := Lib.hid (HS3.out.later hb)
   clear hb d0 b0 b1 b2 b3 b4 HF HS3
   have d0 := HS4.out.box.cell 0
   simp at d0
   obtain ⟨b0, b1, b2, b3, b4⟩ := vl_cells HS4.out.bv
   have HF := Lib.hid (rright_any l A c hc1 (by have := (few_txt KF.out).1; omega) HTX.out _ HS4.out.row)
   cases hf : rgB l with
   | false =>
    rw [hf] at HF
    clear hf
    go_wp2_with fail
    refine HF.out.mono ?_; rintro e wa ⟨rfl, hb⟩
    have HSZ := Lib.hid (HS4.out.later hb)
    clear hb d0 b0 b1 b2 b3 b4 HF HS4
    go_wp2_with fail
    refine (awake12_any _).mono ?_; rintro e WN ⟨rfl, hb⟩
    have HSY := Lib.hid (HSZ.out.later hb)
    clear hb
    go_wp2
    go_ret
    exact ⟨rfl, HSY.out.bel⟩
   | true =>
    rw [hf] at HF
    have KR := Lib.hid hf
    clear hf
    go_wp2_with fail
    refine HF.out.mono ?_; rintro e w5 ⟨rfl, hb⟩
    have HS5 := Lib.hid (HS4.out.later hb)
    clear hb d0 b0 b1 b2 b3 b4 HF HS4
    have d0 := HS5.out.box.cell 0
    simp at d0
    obtain ⟨b0, b1, b2, b3, b4⟩ := vl_cells HS5.out.bv
    have HF := Lib.hid (FV.out _ HS5.out)
    cases hf : fv with
    | false =>
     rw [hf] at HF
     clear hf
     go_wp2_with fail
     refine HF.out.mono ?_; rintro e wa ⟨rfl, hb⟩
     have HSZ := Lib.hid (HS5.out.later hb)
     clear hb d0 b0 b1 b2 b3 b4 HF HS5
     go_wp2_with fail
     refine (awake12_any _).mono ?_; rintro e WN ⟨rfl, hb⟩
     have HSY := Lib.hid (HSZ.out.later hb)
     clear hb
     go_wp2
     go_ret
     exact ⟨rfl, HSY.out.bel⟩
    | true =>
     rw [hf] at HF
     have KV := Lib.hid hf
     clear hf
     go_wp2_with fail
     refine HF.out.mono ?_; rintro e w6 ⟨rfl, hb⟩
     have HS6 := Lib.hid (HS5.out.later hb)
     clear hb d0 b0 b1 b2 b3 b4 HF HS5
     have d0 := HS6.out.box.cell 0
     simp at d0
     obtain ⟨b0, b1, b2, b3, b4⟩ := vl_cells HS6.out.bv
     have hkt : l.length <= 16 /\ W.length <= 8 := by
      have := KT.out
      unfold fitsB at this
      simp at this
      exact this
     have htl : ∀ n ∈ l, n.text.length <= 2000 := (few_txt KF.out).2
     have HSC := Lib.hid (few_sc KF.out ((rgB_iff l).1 KR.out).1)
     have HL100 := Lib.hid (few_txt KF.out).1
     have HTL := Lib.hid htl
     have HKT := Lib.hid hkt
     have HM := Lib.hid (cfM (W := W) HSC.out.form hkt.1 hkt.2)
     have HONE := Lib.hid (HONE.out HSC.out.form)
     have CW := Lib.hid (fun w' h => CW.out w' HSC.out HL100.out htl h KV.out)
     have CN := Lib.hid ((HS6.out.isD hc1).cvals HSC.out (HS6.out.wd hkt.2) (by have := hkt.2; omega))
     clear htl hkt FV KT KR KV KF
     generalize (EN l (l.length - 1) W).take 2 = LL at *
     go_wp2_with fail
     refine CN.out.mono ?_; rintro e w7 ⟨v7, rfl, ⟨A7, c7, rfl, hc7, hr7⟩, hb⟩
     have HV7 : Hid (CfV w A l c ⟨vk, vb, vt, vp, ks⟩ B cv Aw cw W A7 LL w7) := ⟨HS6.out.later hb, hr7.row⟩
     clear hb hr7 HS6 CN d0 b0 b1 b2 b3 b4
     have CG : Hid (∀ w', CfV w A l c ⟨vk, vb, vt, vp, ks⟩ B cv Aw cw W A7 LL w' -> Calls Try.prog 13 #[.agg #[.slice A l.length c], .slice Aw W.length cw] w' (Ans w' (.int .i64 ((LL.length : Nat) : Int)))) := fun w' h => by
      have := (h.s.isD hc1).cways HSC.out (h.s.wd HKT.out.2) (by have := HKT.out.2; omega)
      rwa [<- HM.out.len] at this
     go_upto_region 4 with (fail)
     by_cases h2 : LL.length = 2
     ·have hne2 : ((LL.length : Int) == 2) = true := by rw [beq_iff_eq]; omega
      have hgt : ¬ (2 : Int) < (LL.length : Int) := by omega
      have hl0 : (0 : Int) < (LL.length : Int) := by omega
      have hl1 : (1 : Int) < (LL.length : Int) := by omega
      have hnn : ((LL.length : Int) != (LL.length : Int)) = false := by simp
      obtain ⟨a, b, hab⟩ := big_two h2
      have hne : a ≠ b := fun e => by have := HM.out.nd; rw [hab, e] at this; simp at this
      have hca := (HM.out.wr a (by rw [hab]; simp)).2
      obtain ⟨g, o, Y, cy, hA, hel⟩ := VRow.el HV7.out.r (j := 0) (by rw [Vs.of_len]; omega)
      obtain ⟨g2, o2, Z, cz, hA2, hel2⟩ := VRow.el HV7.out.r (j := 1) (by rw [Vs.of_len]; omega)
      rw [hA] at hA2
      injection hA2 with hA2
      injection hA2 with hA3 hA4
      rw [<- hA3, <- hA4, Nat.one_mul] at hel2
      rw [Nat.zero_mul, Nat.add_zero] at hel
      have hl1e : (Vs.of LL).at 0 = a := by rw [hab]; rfl
      have hl2e : (Vs.of LL).at 1 = b := by rw [hab]; rfl
      rw [hl1e] at hel
      rw [hl2e] at hel2
      have HF7 : Hid (CfF w A l c ⟨vk, vb, vt, vp, ks⟩ B cv Aw cw W A7 LL g o a Y cy (o + 5) b Z cz w7) := ⟨HV7.out, hel, hel2⟩
      have HFV : Hid (∀ w', CfF w A l c ⟨vk, vb, vt, vp, ks⟩ B cv Aw cw W A7 LL g o a Y cy (o + 5) b Z cz w' -> CfV w A l c ⟨vk, vb, vt, vp, ks⟩ B cv Aw cw W A7 LL w') := fun w' h => h.s
      have CT : Hid (∀ w', CfF w A l c ⟨vk, vb, vt, vp, ks⟩ B cv Aw cw W A7 LL g o a Y cy (o + 5) b Z cz w' -> Calls Try.prog 17 #[.agg (vlC a Y cy), .agg (vlC b Z cz)] w' (Ans w' (.bool false))) := fun w' h => by
       have := cf_same (a := a) (b := b) (by omega) h.y.isV h.z.isV
       rwa [sameV_f hne] at this
      clear hab hne hca hA3 hA4 hel hel2 hl1e hl2e HV7
      obtain ⟨ak, ab, at_, ap, as_⟩ := a
      obtain ⟨zk, zb, zt, zp, zs⟩ := b
      rw [vlC_five, vlC_five] at CT
      simp only at CT
      cases hA
      refine wp_region_stable (S := (CfF w A l c ⟨vk, vb, vt, vp, ks⟩ B cv Aw cw W (some ⟨g, o, none⟩) LL g o ⟨ak, ab, at_, ap, as_⟩ Y cy (o + 5) ⟨zk, zb, zt, zp, zs⟩ Z cz)) (hSt := fun _ _ h hb => h.later hb) (plan := [[(7, none)], [(41, some 0)], [(3, none)], [(1, none)], [(43, some 2), (44, some 3)], [(42, some 1), (45, some 4)], [(46, some 5)], [(7, none)], [(48, some 7)], [(49, some 8)], [(47, some 6), (50, some 9)], [(51, some 10)], [(7, none)], [(53, some 12)], [(54, some 13)], [(55, some 14)], [(7, none)], [(57, some 16)], [(58, some 17)], [(7, none)], [(60, some 19)], [(61, some 20)], [(59, some 18), (62, some 21)], [(56, some 15), (63, some 22)], [(52, some 11), (64, some 23)]]) (by kernel_rfl) (by kernel_rfl) (by kernel_rfl) ?hS ?_
      rotate_left
      iterate 25 first
       | (refine chain_skip (by rfl) (by rfl) ?_)
       | (apply chain_want (by rfl)
          ·intro act wx hS hr
           simp at hr
           have d0 := hS.s.s.box.cell 0
           simp at d0
           obtain ⟨p0, p1, p2, p3, p4⟩ := hS.y.five
           obtain ⟨q0, q1, q2, q3, q4⟩ := hS.z.five
           go_simp
           (try go_ints)
           first
            | ((with_reducible refine (CG.out _ hS.s).mono ?_); rintro e w' ⟨rfl, hb⟩; exact Done.mk hb)
            | ((with_reducible refine (CT.out _ hS).mono ?_); rintro e w' ⟨rfl, hb⟩; exact Done.mk hb)
            | exact Done.same
         )
      show ∀ w', _ -> _
      intro w8 hw8
      simp [Act.put]
      case hS => exact HF7.out
      have HT := Lib.hid (HFV.out _ hw8)
      have HTS := Lib.hid HT.out.s
      clear hw8 HF7 HFV CG CT
      generalize (some ⟨g, o, none⟩ : Option Addr) = A7 at *
      clear hl0 hl1 hne2 hgt hnn h2
      have d0 := HTS.out.box.cell 0
      simp at d0
      obtain ⟨b0, b1, b2, b3, b4⟩ := vl_cells HTS.out.bv
      clear HTS
      clear d0 b0 b1 b2 b3 b4
      go_wp2
      go_loopw [8] (CflL w A l c ⟨vk, vb, vt, vp, ks⟩ B cv Aw cw W A7 LL) (fun x _ => LL.length - (intOf x).toNat)
      case atStart => exact ⟨0, Nat.zero_le _, rfl, HT.out⟩
      case round =>
       obtain ⟨k, hk, rfl, hs⟩ := hrel
       have HS := Lib.hid hs
       clear hs HT
       by_cases hlt : k < LL.length
       ·have hltz : (k : Int) < (LL.length : Int) := by omega
        have hlt2 : (LL.length : Int) <= 2 := by have := HM.out.two; omega
        have hk2 : (k : Int) <= 1 := by omega
        obtain ⟨g, o, Y, cy, hA, hel⟩ := VRow.el HS.out.r (j := k) (by rw [Vs.of_len]; exact hlt)
        have hat := HM.out.at_ hlt
        generalize (Vs.of LL).at k = y at hel hat
        have HE0 : Hid (CfE w A l c ⟨vk, vb, vt, vp, ks⟩ B cv Aw cw W A7 LL g (o + k * 5) y Y cy wr) := ⟨HS.out, hel⟩
        have CK : Hid (∀ w', CfE w A l c ⟨vk, vb, vt, vp, ks⟩ B cv Aw cw W A7 LL g (o + k * 5) y Y cy w' -> Calls Try.prog 18 #[.agg #[.slice A l.length c], .agg (vlC y Y cy)] w' (CfP w' (some W))) := fun w' h => by
         have := (rwrite_any l A c HSC.out.form hc1 (by have := HL100.out; omega) HTL.out y (by have := hat.2; omega) _ w' h.s.s.row h.y.isV).mono fun e w'' ⟨x, g1, g2, g3⟩ => (⟨x, g1, g2.cfT, g3⟩ : CfP w' (wrD l y) e w'')
         rwa [hat.1] at this
        clear hat hel HS
        obtain ⟨yk, yb, yt, yp, ys⟩ := y
        rw [vlC_five] at CK
        simp only at CK
        have HE1 : Hid (∀ w', CfE w A l c ⟨vk, vb, vt, vp, ks⟩ B cv Aw cw W A7 LL g (o + k * 5) ⟨yk, yb, yt, yp, ys⟩ Y cy w' -> CfV w A l c ⟨vk, vb, vt, vp, ks⟩ B cv Aw cw W A7 LL w') := fun w' h => h.s
        cases hA
        go_upto_region 9 with (fail)
        refine wp_region_stable (S := (CfE w A l c ⟨vk, vb, vt, vp, ks⟩ B cv Aw cw W (some ⟨g, o, none⟩) LL g (o + k * 5) ⟨yk, yb, yt, yp, ys⟩ Y cy)) (hSt := fun _ _ h hb => h.later hb) (plan := [[(3, none)], [(7, none)], [(8, none)], [(74, some 1), (75, some 2)], [(76, some 3)], [(73, some 0), (77, some 4)], [(78, some 5)], [(72, some 6)], [(72, some 6)], [(79, some 7)], [(80, some 8)]]) (by kernel_rfl) (by kernel_rfl) (by kernel_rfl) ?hS ?_
        rotate_left
        iterate 5 first
         | (refine chain_skip (by rfl) (by rfl) ?_)
         | (apply chain_want (by rfl)
            ·intro act wx hS hr
             simp at hr
             have d0 := hS.s.s.box.cell 0
             simp at d0
             obtain ⟨p0, p1, p2, p3, p4⟩ := hS.y.five
             go_simp
             (try go_ints)
             first
              | (obtain ⟨x, hr1, sv, rfl, hx⟩ := hr; simp only [hr1, Option.getD_some]; go_simp; exact Done.same)
              | exact Done.same
           )
        (refine chain_rel (CfT (some W)) (CfT.later _) (by rfl) ?_ ?_
         ·intro act wx hS hr
          simp at hr
          have d0 := hS.s.s.box.cell 0
          simp at d0
          obtain ⟨p0, p1, p2, p3, p4⟩ := hS.y.five
          all_goals go_simp
          ((with_reducible refine (CK.out _ hS).mono ?_); rintro e w' ⟨x, rfl, hx, hb⟩; exact Done.rel hb hx)
        )
        (refine chain_rel (CfT (some W)) (CfT.later _) (by rfl) ?_ ?_
         ·intro act wx hS hr
          simp at hr
          have d0 := hS.s.s.box.cell 0
          simp at d0
          obtain ⟨p0, p1, p2, p3, p4⟩ := hS.y.five
          obtain ⟨x, hr1, hx⟩ := hr
          all_goals go_simp
          exact Done.rel (Below.refl _ _) hx
        )
        (refine chain_rel (CfW W) (CfW.later _) (by rfl) ?_ ?_
         ·intro act wx hS hr
          simp at hr
          have d0 := hS.s.s.box.cell 0
          simp at d0
          obtain ⟨p0, p1, p2, p3, p4⟩ := hS.y.five
          obtain ⟨x, hr1, sv, rfl, hx⟩ := hr
          all_goals go_simp
          exact Done.rel (Below.refl _ _) hx
        )
        iterate 1 first
         | (refine chain_skip (by rfl) (by rfl) ?_)
         | (apply chain_want (by rfl)
            ·intro act wx hS hr
             simp at hr
             have d0 := hS.s.s.box.cell 0
             simp at d0
             obtain ⟨p0, p1, p2, p3, p4⟩ := hS.y.five
             go_simp
             (try go_ints)
             first
              | (obtain ⟨x, hr1, sv, rfl, hx⟩ := hr; simp only [hr1, Option.getD_some]; go_simp; exact Done.same)
              | exact Done.same
           )
        (refine chain_rel (CfW W) (CfW.later _) (by rfl) ?_ ?_
         ·intro act wx hS hr
          simp at hr
          have d0 := hS.s.s.box.cell 0
          simp at d0
          obtain ⟨p0, p1, p2, p3, p4⟩ := hS.y.five
          obtain ⟨x, hr1, hx⟩ := hr
          all_goals go_simp
          exact Done.rel (Below.refl _ _) hx
        )
        iterate 1 first
         | (refine chain_skip (by rfl) (by rfl) ?_)
         | (apply chain_want (by rfl)
            ·intro act wx hS hr
             simp at hr
             have d0 := hS.s.s.box.cell 0
             simp at d0
             obtain ⟨p0, p1, p2, p3, p4⟩ := hS.y.five
             go_simp
             (try go_ints)
             first
              | (obtain ⟨x, hr1, sv, rfl, hx⟩ := hr; simp only [hr1, Option.getD_some]; go_simp; exact Done.same)
              | exact Done.same
           )
        show ∀ w', _ -> _
        intro w9 hw9
        simp [Act.put]
        case hS => exact HE0.out
        intro p5 _ p6 _ p7 _ p9 hp9
        have hp9 : IsW W p9 w9 := hp9
        have HS9 := Lib.hid (HE1.out _ hw9)
        have CB : Hid (Calls Try.prog 19 #[p9, .slice Aw W.length cw] w9 (Ans w9 (.bool true))) := by
         have := cf_bytes (nats W) (nats W) p9 (.slice Aw W.length cw) w9 (IsW.bytes hp9) (HS9.out.s.wd HKT.out.2).bytes (by rw [nats_length]; have := HKT.out.2; omega) (by rw [nats_length]; have := HKT.out.2; omega)
         rwa [show (nats W == nats W) = true by simp] at this
        clear hw9 HE0 HE1 CK hp9
        go_wp2_with fail
        refine CB.out.mono ?_; rintro e w10 ⟨rfl, hb⟩
        have HS10 := Lib.hid (HS9.out.later hb)
        clear hb HS9 CB
        go_wp2
        go_roundw
        case rel => exact ⟨k + 1, by omega, by go_num, HS10.out⟩
        case measure => simp [intOf]; omega
       ·have hlast : ¬ (k : Int) < (LL.length : Int) := by omega
        have HSE := Lib.hid HS.out.s
        clear HS
        have d0 := HSE.out.box.cell 0
        simp at d0
        obtain ⟨b0, b1, b2, b3, b4⟩ := vl_cells HSE.out.bv
        go_wp2_with fail
        refine (CW.out _ HSE.out).mono ?_; rintro e w12 ⟨x12, rfl, ⟨sx, rfl, hx⟩, hb⟩
        have HS12 := Lib.hid (HSE.out.later hb)
        clear hb HSE d0 b0 b1 b2 b3 b4
        cases r with
        | none =>
         go_wp2
         go_ret
         exact ⟨rfl, HS12.out.bel⟩
        | some X =>
         have hx : IsW X sx w12 := hx
         obtain ⟨AX, cX, rfl, hcX⟩ := hx.len
         have HX := Lib.hid hx
         clear hx
         by_cases h8 : X.length <= 8
         ·have h8z : ¬ (8 : Int) < (X.length : Int) := by omega
          have HX8 := Lib.hid h8
          have HON := Lib.hid (HONE.out X rfl)
          have CN := Lib.hid ((HS12.out.isD hc1).cvals HSC.out HX.out (by omega))
          have HXM := Lib.hid (cfM (W := X) HSC.out.form HKT.out.1 h8)
          have CH : Hid (∀ w', CfX w A l c ⟨vk, vb, vt, vp, ks⟩ B cv Aw cw W X (.slice AX X.length cX) w' -> Calls Try.prog 14 #[.agg #[.slice A l.length c], .slice AX X.length cX] w' (Ans w' (.bool true))) := fun w' h => by
           have := (h.s.isD hc1).chas HSC.out h.x (by have := HX8.out; omega)
           rwa [decide_eq_true (by have := HON.out.1; rw [HXM.out.len] at this; omega)] at this
          generalize (EN l (l.length - 1) X).take 2 = MM at *
          have d0 := HS12.out.box.cell 0
          simp at d0
          obtain ⟨b0, b1, b2, b3, b4⟩ := vl_cells HS12.out.bv
          go_wp2_with fail
          refine CN.out.mono ?_; rintro e w15 ⟨v15, rfl, ⟨A5, c5, rfl, hc5, hr5⟩, hb⟩
          have HX15 : Hid (CfX w A l c ⟨vk, vb, vt, vp, ks⟩ B cv Aw cw W X (.slice AX X.length cX) w15) := ⟨HS12.out.later hb, HX.out.later hb⟩
          have hr5 := hr5.row
          clear hb HS12 HX CN d0 b0 b1 b2 b3 b4
          go_upto_region 16 with (fail)
          match MM, HXM, HON, hc5, hr5 with
          | [], HXM, HON, hc5, hr5 => exact absurd HON.out.1 (by simp)
          | [a], HXM, HON, hc5, hr5 =>
           have hsa := HON.out.2 a rfl
           have hcnt := (HXM.out.wr a (List.mem_singleton.2 rfl)).2
           obtain ⟨g, o, Y, cy, hA, hel⟩ := VRow.el hr5 (j := 0) (by rw [Vs.of_len]; simp)
           rw [Nat.zero_mul, Nat.add_zero] at hel
           have hel : ElS g o a Y cy w15 := hel
           have HY15 : Hid (CfY w A l c ⟨vk, vb, vt, vp, ks⟩ B cv Aw cw W X (.slice AX X.length cX) g o a Y cy w15) := ⟨HX15.out, hel⟩
           have CT : Hid (∀ w', CfY w A l c ⟨vk, vb, vt, vp, ks⟩ B cv Aw cw W X (.slice AX X.length cX) g o a Y cy w' -> Calls Try.prog 17 #[.agg (vlC a Y cy), .agg (vlC ⟨vk, vb, vt, vp, ks⟩ B cv)] w' (Ans w' (.bool true))) := fun w' h => CS.out g o a Y cy w' hsa hcnt h.y h.s.s
           have e1 : [a].length = 1 := rfl
           rw [e1]
           clear hr5 hsa hcnt hel HX15 HON HXM hc5 e1
           obtain ⟨ak, ab, at_, ap, as_⟩ := a
           rw [vlC_five, vlC_five] at CT
           simp only at CT
           cases hA
           refine wp_region_stable (S := (CfY w A l c ⟨vk, vb, vt, vp, ks⟩ B cv Aw cw W X (.slice AX X.length cX) g o ⟨ak, ab, at_, ap, as_⟩ Y cy)) (hSt := fun _ _ h hb => h.later hb) (plan := [[(13, none)], [(105, some 0)], [(106, some 1)], [(107, some 2)], [(13, none)], [(109, some 4)], [(110, some 5)], [(111, some 6)], [(13, none)], [(113, some 8)], [(114, some 9)], [(5, none)], [(115, some 10), (116, some 11)], [(112, some 7), (117, some 12)], [(108, some 3), (118, some 13)], [(119, some 14)], [(3, none)], [(11, none)], [(121, some 16), (122, some 17)], [(120, some 15), (123, some 18)], [(124, some 19)]]) (by kernel_rfl) (by kernel_rfl) (by kernel_rfl) ?hS ?_
           rotate_left
           iterate 21 first
            | (refine chain_skip (by rfl) (by rfl) ?_)
            | (apply chain_want (by rfl)
               ·intro act wx hS hr
                simp at hr
                have d0 := hS.s.s.box.cell 0
                simp at d0
                obtain ⟨b0, b1, b2, b3, b4⟩ := vl_cells hS.s.s.bv
                obtain ⟨p0, p1, p2, p3, p4⟩ := hS.y.five
                go_simp
                (try go_ints)
                first
                 | ((with_reducible refine (CT.out _ hS).mono ?_); rintro e w' ⟨rfl, hb⟩; exact Done.mk hb)
                 | ((with_reducible refine (CH.out _ hS.s).mono ?_); rintro e w' ⟨rfl, hb⟩; exact Done.mk hb)
                 | exact Done.same
              )
           show ∀ w', _ -> _
           intro w16 hw16
           simp [Act.put]
           case hS => exact HY15.out
           have HEND := Lib.hid hw16.s.s.bel
           clear hw16 HY15 CT CH
           go_wp2
           go_ret
           exact ⟨rfl, HEND.out⟩
          | [a, b], HXM, HON, hc5, hr5 =>
           have e1 : [a, b].length = 2 := rfl
           rw [e1]
           clear hr5 HON HXM hc5 e1
           refine wp_region_stable (S := (CfX w A l c ⟨vk, vb, vt, vp, ks⟩ B cv Aw cw W X (.slice AX X.length cX))) (hSt := fun _ _ h hb => h.later hb) (plan := [[(13, none)], [(105, some 0)], [(106, some 1)], [(107, some 2)], [(13, none)], [(109, some 4)], [(110, some 5)], [(111, some 6)], [(13, none)], [(113, some 8)], [(114, some 9)], [(5, none)], [(115, some 10), (116, some 11)], [(112, some 7), (117, some 12)], [(108, some 3), (118, some 13)], [(119, some 14)], [(3, none)], [(11, none)], [(121, some 16), (122, some 17)], [(120, some 15), (123, some 18)], [(124, some 19)]]) (by kernel_rfl) (by kernel_rfl) (by kernel_rfl) ?hS ?_
           rotate_left
           iterate 21 first
            | (refine chain_skip (by rfl) (by rfl) ?_)
            | (apply chain_want (by rfl)
               ·intro act wx hS hr
                simp at hr
                have d0 := hS.s.box.cell 0
                simp at d0
                obtain ⟨b0, b1, b2, b3, b4⟩ := vl_cells hS.s.bv
                go_simp
                (try go_ints)
                first
                 | ((with_reducible refine (CH.out _ hS).mono ?_); rintro e w' ⟨rfl, hb⟩; exact Done.mk hb)
                 | exact Done.same
              )
           show ∀ w', _ -> _
           intro w16 hw16
           simp [Act.put]
           case hS => exact HX15.out
           have HEND := Lib.hid hw16.s.bel
           clear hw16 HX15 CH
           go_wp2
           go_ret
           exact ⟨rfl, HEND.out⟩
          | a :: b :: d :: t, HXM, HON, hc5, hr5 => exact absurd HXM.out.two (by simp)
         ·have h8z : (8 : Int) < (X.length : Int) := by omega
          go_wp2
          go_ret
          exact ⟨rfl, HS12.out.bel⟩
     ·have hn2 : (LL.length : Int) <= 1 := by have := HM.out.two; omega
      have hne2 : ((LL.length : Int) == 2) = false := by rw [beq_eq_false_iff_ne]; omega
      have hgt : ¬ (2 : Int) < (LL.length : Int) := by omega
      have hnn : ((LL.length : Int) != (LL.length : Int)) = false := by simp
      refine wp_region_stable (S := (CfV w A l c ⟨vk, vb, vt, vp, ks⟩ B cv Aw cw W A7 LL)) (hSt := fun _ _ h hb => h.later hb) (plan := [[(7, none)], [(41, some 0)], [(3, none)], [(1, none)], [(43, some 2), (44, some 3)], [(42, some 1), (45, some 4)], [(46, some 5)], [(7, none)], [(48, some 7)], [(49, some 8)], [(47, some 6), (50, some 9)], [(51, some 10)], [(7, none)], [(53, some 12)], [(54, some 13)], [(55, some 14)], [(7, none)], [(57, some 16)], [(58, some 17)], [(7, none)], [(60, some 19)], [(61, some 20)], [(59, some 18), (62, some 21)], [(56, some 15), (63, some 22)], [(52, some 11), (64, some 23)]]) (by kernel_rfl) (by kernel_rfl) (by kernel_rfl) ?hS ?_
      rotate_left
      iterate 25 first
       | (refine chain_skip (by rfl) (by rfl) ?_)
       | (apply chain_want (by rfl)
          ·intro act wx hS hr
           simp at hr
           have d0 := hS.s.box.cell 0
           simp at d0
           go_simp
           (try go_ints)
           first
            | ((with_reducible refine (CG.out _ hS).mono ?_); rintro e w' ⟨rfl, hb⟩; exact Done.mk hb)
            | exact Done.same
         )
      show ∀ w', _ -> _
      intro w8 hw8
      simp [Act.put]
      case hS => exact HV7.out
      have HT := Lib.hid hw8
      have HTS := Lib.hid hw8.s
      clear hw8 HV7 CG hn2 hne2 hgt hnn h2
      have d0 := HTS.out.box.cell 0
      simp at d0
      obtain ⟨b0, b1, b2, b3, b4⟩ := vl_cells HTS.out.bv
      clear HTS
      clear d0 b0 b1 b2 b3 b4
      go_wp2
      go_loopw [8] (CflL w A l c ⟨vk, vb, vt, vp, ks⟩ B cv Aw cw W A7 LL) (fun x _ => LL.length - (intOf x).toNat)
      case atStart => exact ⟨0, Nat.zero_le _, rfl, HT.out⟩
      case round =>
       obtain ⟨k, hk, rfl, hs⟩ := hrel
       have HS := Lib.hid hs
       clear hs HT
       by_cases hlt : k < LL.length
       ·have hltz : (k : Int) < (LL.length : Int) := by omega
        have hlt2 : (LL.length : Int) <= 2 := by have := HM.out.two; omega
        have hk2 : (k : Int) <= 1 := by omega
        obtain ⟨g, o, Y, cy, hA, hel⟩ := VRow.el HS.out.r (j := k) (by rw [Vs.of_len]; exact hlt)
        have hat := HM.out.at_ hlt
        generalize (Vs.of LL).at k = y at hel hat
        have HE0 : Hid (CfE w A l c ⟨vk, vb, vt, vp, ks⟩ B cv Aw cw W A7 LL g (o + k * 5) y Y cy wr) := ⟨HS.out, hel⟩
        have CK : Hid (∀ w', CfE w A l c ⟨vk, vb, vt, vp, ks⟩ B cv Aw cw W A7 LL g (o + k * 5) y Y cy w' -> Calls Try.prog 18 #[.agg #[.slice A l.length c], .agg (vlC y Y cy)] w' (CfP w' (some W))) := fun w' h => by
         have := (rwrite_any l A c HSC.out.form hc1 (by have := HL100.out; omega) HTL.out y (by have := hat.2; omega) _ w' h.s.s.row h.y.isV).mono fun e w'' ⟨x, g1, g2, g3⟩ => (⟨x, g1, g2.cfT, g3⟩ : CfP w' (wrD l y) e w'')
         rwa [hat.1] at this
        clear hat hel HS
        obtain ⟨yk, yb, yt, yp, ys⟩ := y
        rw [vlC_five] at CK
        simp only at CK
        have HE1 : Hid (∀ w', CfE w A l c ⟨vk, vb, vt, vp, ks⟩ B cv Aw cw W A7 LL g (o + k * 5) ⟨yk, yb, yt, yp, ys⟩ Y cy w' -> CfV w A l c ⟨vk, vb, vt, vp, ks⟩ B cv Aw cw W A7 LL w') := fun w' h => h.s
        cases hA
        go_upto_region 9 with (fail)
        refine wp_region_stable (S := (CfE w A l c ⟨vk, vb, vt, vp, ks⟩ B cv Aw cw W (some ⟨g, o, none⟩) LL g (o + k * 5) ⟨yk, yb, yt, yp, ys⟩ Y cy)) (hSt := fun _ _ h hb => h.later hb) (plan := [[(3, none)], [(7, none)], [(8, none)], [(74, some 1), (75, some 2)], [(76, some 3)], [(73, some 0), (77, some 4)], [(78, some 5)], [(72, some 6)], [(72, some 6)], [(79, some 7)], [(80, some 8)]]) (by kernel_rfl) (by kernel_rfl) (by kernel_rfl) ?hS ?_
        rotate_left
        iterate 5 first
         | (refine chain_skip (by rfl) (by rfl) ?_)
         | (apply chain_want (by rfl)
            ·intro act wx hS hr
             simp at hr
             have d0 := hS.s.s.box.cell 0
             simp at d0
             obtain ⟨p0, p1, p2, p3, p4⟩ := hS.y.five
             go_simp
             (try go_ints)
             first
              | (obtain ⟨x, hr1, sv, rfl, hx⟩ := hr; simp only [hr1, Option.getD_some]; go_simp; exact Done.same)
              | exact Done.same
           )
        (refine chain_rel (CfT (some W)) (CfT.later _) (by rfl) ?_ ?_
         ·intro act wx hS hr
          simp at hr
          have d0 := hS.s.s.box.cell 0
          simp at d0
          obtain ⟨p0, p1, p2, p3, p4⟩ := hS.y.five
          all_goals go_simp
          ((with_reducible refine (CK.out _ hS).mono ?_); rintro e w' ⟨x, rfl, hx, hb⟩; exact Done.rel hb hx)
        )
        (refine chain_rel (CfT (some W)) (CfT.later _) (by rfl) ?_ ?_
         ·intro act wx hS hr
          simp at hr
          have d0 := hS.s.s.box.cell 0
          simp at d0
          obtain ⟨p0, p1, p2, p3, p4⟩ := hS.y.five
          obtain ⟨x, hr1, hx⟩ := hr
          all_goals go_simp
          exact Done.rel (Below.refl _ _) hx
        )
        (refine chain_rel (CfW W) (CfW.later _) (by rfl) ?_ ?_
         ·intro act wx hS hr
          simp at hr
          have d0 := hS.s.s.box.cell 0
          simp at d0
          obtain ⟨p0, p1, p2, p3, p4⟩ := hS.y.five
          obtain ⟨x, hr1, sv, rfl, hx⟩ := hr
          all_goals go_simp
          exact Done.rel (Below.refl _ _) hx
        )
        iterate 1 first
         | (refine chain_skip (by rfl) (by rfl) ?_)
         | (apply chain_want (by rfl)
            ·intro act wx hS hr
             simp at hr
             have d0 := hS.s.s.box.cell 0
             simp at d0
             obtain ⟨p0, p1, p2, p3, p4⟩ := hS.y.five
             go_simp
             (try go_ints)
             first
              | (obtain ⟨x, hr1, sv, rfl, hx⟩ := hr; simp only [hr1, Option.getD_some]; go_simp; exact Done.same)
              | exact Done.same
           )
        (refine chain_rel (CfW W) (CfW.later _) (by rfl) ?_ ?_
         ·intro act wx hS hr
          simp at hr
          have d0 := hS.s.s.box.cell 0
          simp at d0
          obtain ⟨p0, p1, p2, p3, p4⟩ := hS.y.five
          obtain ⟨x, hr1, hx⟩ := hr
          all_goals go_simp
          exact Done.rel (Below.refl _ _) hx
        )
        iterate 1 first
         | (refine chain_skip (by rfl) (by rfl) ?_)
         | (apply chain_want (by rfl)
            ·intro act wx hS hr
             simp at hr
             have d0 := hS.s.s.box.cell 0
             simp at d0
             obtain ⟨p0, p1, p2, p3, p4⟩ := hS.y.five
             go_simp
             (try go_ints)
             first
              | (obtain ⟨x, hr1, sv, rfl, hx⟩ := hr; simp only [hr1, Option.getD_some]; go_simp; exact Done.same)
              | exact Done.same
           )
        show ∀ w', _ -> _
        intro w9 hw9
        simp [Act.put]
        case hS => exact HE0.out
        intro p5 _ p6 _ p7 _ p9 hp9
        have hp9 : IsW W p9 w9 := hp9
        have HS9 := Lib.hid (HE1.out _ hw9)
        have CB : Hid (Calls Try.prog 19 #[p9, .slice Aw W.length cw] w9 (Ans w9 (.bool true))) := by
         have := cf_bytes (nats W) (nats W) p9 (.slice Aw W.length cw) w9 (IsW.bytes hp9) (HS9.out.s.wd HKT.out.2).bytes (by rw [nats_length]; have := HKT.out.2; omega) (by rw [nats_length]; have := HKT.out.2; omega)
         rwa [show (nats W == nats W) = true by simp] at this
        clear hw9 HE0 HE1 CK hp9
        go_wp2_with fail
        refine CB.out.mono ?_; rintro e w10 ⟨rfl, hb⟩
        have HS10 := Lib.hid (HS9.out.later hb)
        clear hb HS9 CB
        go_wp2
        go_roundw
        case rel => exact ⟨k + 1, by omega, by go_num, HS10.out⟩
        case measure => simp [intOf]; omega
       ·have hlast : ¬ (k : Int) < (LL.length : Int) := by omega
        have HSE := Lib.hid HS.out.s
        clear HS
        have d0 := HSE.out.box.cell 0
        simp at d0
        obtain ⟨b0, b1, b2, b3, b4⟩ := vl_cells HSE.out.bv
        go_wp2_with fail
        refine (CW.out _ HSE.out).mono ?_; rintro e w12 ⟨x12, rfl, ⟨sx, rfl, hx⟩, hb⟩
        have HS12 := Lib.hid (HSE.out.later hb)
        clear hb HSE d0 b0 b1 b2 b3 b4
        cases r with
        | none =>
         go_wp2
         go_ret
         exact ⟨rfl, HS12.out.bel⟩
        | some X =>
         have hx : IsW X sx w12 := hx
         obtain ⟨AX, cX, rfl, hcX⟩ := hx.len
         have HX := Lib.hid hx
         clear hx
         by_cases h8 : X.length <= 8
         ·have h8z : ¬ (8 : Int) < (X.length : Int) := by omega
          have HX8 := Lib.hid h8
          have HON := Lib.hid (HONE.out X rfl)
          have CN := Lib.hid ((HS12.out.isD hc1).cvals HSC.out HX.out (by omega))
          have HXM := Lib.hid (cfM (W := X) HSC.out.form HKT.out.1 h8)
          have CH : Hid (∀ w', CfX w A l c ⟨vk, vb, vt, vp, ks⟩ B cv Aw cw W X (.slice AX X.length cX) w' -> Calls Try.prog 14 #[.agg #[.slice A l.length c], .slice AX X.length cX] w' (Ans w' (.bool true))) := fun w' h => by
           have := (h.s.isD hc1).chas HSC.out h.x (by have := HX8.out; omega)
           rwa [decide_eq_true (by have := HON.out.1; rw [HXM.out.len] at this; omega)] at this
          generalize (EN l (l.length - 1) X).take 2 = MM at *
          have d0 := HS12.out.box.cell 0
          simp at d0
          obtain ⟨b0, b1, b2, b3, b4⟩ := vl_cells HS12.out.bv
          go_wp2_with fail
          refine CN.out.mono ?_; rintro e w15 ⟨v15, rfl, ⟨A5, c5, rfl, hc5, hr5⟩, hb⟩
          have HX15 : Hid (CfX w A l c ⟨vk, vb, vt, vp, ks⟩ B cv Aw cw W X (.slice AX X.length cX) w15) := ⟨HS12.out.later hb, HX.out.later hb⟩
          have hr5 := hr5.row
          clear hb HS12 HX CN d0 b0 b1 b2 b3 b4
          go_upto_region 16 with (fail)
          match MM, HXM, HON, hc5, hr5 with
          | [], HXM, HON, hc5, hr5 => exact absurd HON.out.1 (by simp)
          | [a], HXM, HON, hc5, hr5 =>
           have hsa := HON.out.2 a rfl
           have hcnt := (HXM.out.wr a (List.mem_singleton.2 rfl)).2
           obtain ⟨g, o, Y, cy, hA, hel⟩ := VRow.el hr5 (j := 0) (by rw [Vs.of_len]; simp)
           rw [Nat.zero_mul, Nat.add_zero] at hel
           have hel : ElS g o a Y cy w15 := hel
           have HY15 : Hid (CfY w A l c ⟨vk, vb, vt, vp, ks⟩ B cv Aw cw W X (.slice AX X.length cX) g o a Y cy w15) := ⟨HX15.out, hel⟩
           have CT : Hid (∀ w', CfY w A l c ⟨vk, vb, vt, vp, ks⟩ B cv Aw cw W X (.slice AX X.length cX) g o a Y cy w' -> Calls Try.prog 17 #[.agg (vlC a Y cy), .agg (vlC ⟨vk, vb, vt, vp, ks⟩ B cv)] w' (Ans w' (.bool true))) := fun w' h => CS.out g o a Y cy w' hsa hcnt h.y h.s.s
           have e1 : [a].length = 1 := rfl
           rw [e1]
           clear hr5 hsa hcnt hel HX15 HON HXM hc5 e1
           obtain ⟨ak, ab, at_, ap, as_⟩ := a
           rw [vlC_five, vlC_five] at CT
           simp only at CT
           cases hA
           refine wp_region_stable (S := (CfY w A l c ⟨vk, vb, vt, vp, ks⟩ B cv Aw cw W X (.slice AX X.length cX) g o ⟨ak, ab, at_, ap, as_⟩ Y cy)) (hSt := fun _ _ h hb => h.later hb) (plan := [[(13, none)], [(105, some 0)], [(106, some 1)], [(107, some 2)], [(13, none)], [(109, some 4)], [(110, some 5)], [(111, some 6)], [(13, none)], [(113, some 8)], [(114, some 9)], [(5, none)], [(115, some 10), (116, some 11)], [(112, some 7), (117, some 12)], [(108, some 3), (118, some 13)], [(119, some 14)], [(3, none)], [(11, none)], [(121, some 16), (122, some 17)], [(120, some 15), (123, some 18)], [(124, some 19)]]) (by kernel_rfl) (by kernel_rfl) (by kernel_rfl) ?hS ?_
           rotate_left
           iterate 21 first
            | (refine chain_skip (by rfl) (by rfl) ?_)
            | (apply chain_want (by rfl)
               ·intro act wx hS hr
                simp at hr
                have d0 := hS.s.s.box.cell 0
                simp at d0
                obtain ⟨b0, b1, b2, b3, b4⟩ := vl_cells hS.s.s.bv
                obtain ⟨p0, p1, p2, p3, p4⟩ := hS.y.five
                go_simp
                (try go_ints)
                first
                 | ((with_reducible refine (CT.out _ hS).mono ?_); rintro e w' ⟨rfl, hb⟩; exact Done.mk hb)
                 | ((with_reducible refine (CH.out _ hS.s).mono ?_); rintro e w' ⟨rfl, hb⟩; exact Done.mk hb)
                 | exact Done.same
              )
           show ∀ w', _ -> _
           intro w16 hw16
           simp [Act.put]
           case hS => exact HY15.out
           have HEND := Lib.hid hw16.s.s.bel
           clear hw16 HY15 CT CH
           go_wp2
           go_ret
           exact ⟨rfl, HEND.out⟩
          | [a, b], HXM, HON, hc5, hr5 =>
           have e1 : [a, b].length = 2 := rfl
           rw [e1]
           clear hr5 HON HXM hc5 e1
           refine wp_region_stable (S := (CfX w A l c ⟨vk, vb, vt, vp, ks⟩ B cv Aw cw W X (.slice AX X.length cX))) (hSt := fun _ _ h hb => h.later hb) (plan := [[(13, none)], [(105, some 0)], [(106, some 1)], [(107, some 2)], [(13, none)], [(109, some 4)], [(110, some 5)], [(111, some 6)], [(13, none)], [(113, some 8)], [(114, some 9)], [(5, none)], [(115, some 10), (116, some 11)], [(112, some 7), (117, some 12)], [(108, some 3), (118, some 13)], [(119, some 14)], [(3, none)], [(11, none)], [(121, some 16), (122, some 17)], [(120, some 15), (123, some 18)], [(124, some 19)]]) (by kernel_rfl) (by kernel_rfl) (by kernel_rfl) ?hS ?_
           rotate_left
           iterate 21 first
            | (refine chain_skip (by rfl) (by rfl) ?_)
            | (apply chain_want (by rfl)
               ·intro act wx hS hr
                simp at hr
                have d0 := hS.s.box.cell 0
                simp at d0
                obtain ⟨b0, b1, b2, b3, b4⟩ := vl_cells hS.s.bv
                go_simp
                (try go_ints)
                first
                 | ((with_reducible refine (CH.out _ hS).mono ?_); rintro e w' ⟨rfl, hb⟩; exact Done.mk hb)
                 | exact Done.same
              )
           show ∀ w', _ -> _
           intro w16 hw16
           simp [Act.put]
           case hS => exact HX15.out
           have HEND := Lib.hid hw16.s.bel
           clear hw16 HX15 CH
           go_wp2
           go_ret
           exact ⟨rfl, HEND.out⟩
          | a :: b :: d :: t, HXM, HON, hc5, hr5 => exact absurd HXM.out.two (by simp)
         ·have h8z : (8 : Int) < (X.length : Int) := by omega
          go_wp2
          go_ret
          exact ⟨rfl, HS12.out.bel⟩
end Go.Proofs.Ytpbbokdmoaadfaa
