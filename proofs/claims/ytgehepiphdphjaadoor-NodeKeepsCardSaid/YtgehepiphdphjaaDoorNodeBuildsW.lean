/- The statement NodeBuilds of layer 4, walked. -/
import Derived.Test.YtgehepiphdphjaaDoorNodeRBuild
namespace Go.Proofs.YtgehepiphdphjaaDoor
open Go Go.RowKit
set_option linter.unusedVariables false
set_option linter.unusedSimpArgs false

/-- A description in a box. -/
structure Bx (b : Nat) (A : Option Addr) (l : List Nd) (c : Nat) (w : World) : Prop where
  blk : Blk w b #[.slice A l.length c] 49
  row : NRow w A l
  cap : l.length ≤ c
theorem Bx.later {b : Nat} {A : Option Addr} {l : List Nd} {c : Nat} {w w' : World} (h : Bx b A l c w) (hb : Below w.heap.size w w') : Bx b A l c w' := ⟨h.blk.later hb, h.row.later hb, h.cap⟩
theorem Bx.isD {b : Nat} {A : Option Addr} {l : List Nd} {c : Nat} {w : World} (h : Bx b A l c w) : IsD l (.agg #[.slice A l.length c]) w := ⟨A, c, h.cap, rfl, h.row⟩
theorem Bx.load {b : Nat} {A : Option Addr} {l : List Nd} {c : Nat} {w : World} (h : Bx b A l c w) : w.cell? ⟨b, 0, none⟩ = some (.slice A l.length c) := h.blk.cell 0
structure NbS (w0 : World) (A B : Option Addr) (a b : List Nd) (c1 c2 : Nat) (w : World) : Prop where
  bel : Below w0.heap.size w0 w
  u8 : U8T w
  x : Bx w0.heap.size A a c1 w
  y : Bx (w0.heap.size + 1) B b c2 w
theorem NbS.later {w0 w w' : World} {A B : Option Addr} {a b : List Nd} {c1 c2 : Nat} (h : NbS w0 A B a b c1 c2 w) (hb : Below w.heap.size w w') : NbS w0 A B a b c1 c2 w' := ⟨h.bel.trans (hb.mono h.bel.size), h.u8.later hb, h.x.later hb, h.y.later hb⟩
theorem NbS.new (w : World) (A B : Option Addr) (a b : List Nd) (c1 c2 : Nat) (ha : NRow w A a) (hb : NRow w B b) (h1 : a.length ≤ c1) (h2 : b.length ≤ c2) (hT : U8T w) : NbS w A B a b c1 c2 ((w.alloc (.cells #[.slice A a.length c1] 49)).alloc (.cells #[.slice B b.length c2] 49)) := by
  have HB := ((Below.refl w.heap.size w).alloc (Nat.le_refl _) (.cells #[.slice A a.length c1] 49)).alloc (by simp) (.cells #[.slice B b.length c2] 49)
  exact ⟨HB, hT.later HB, ⟨(Blk.new w _ _).alloc _, ha.later HB, h1⟩, ⟨Blk.new' (by simp) _ _, hb.later HB, h2⟩⟩
theorem IsD.sameT {l : List Nd} {u v : Value} {w : World} (h : IsD l u w) (k : IsD l v w) (hl : l.length ≤ 1073741824) : Calls Tryd.prog 32 #[u, v] w (Ans w (.bool true)) := by
  have := h.same k hl hl
  rwa [decide_eq_true (rfl : l = l)] at this
theorem IsD.rsameT {l : List Nd} {u v : Value} {w : World} (h : IsD l u w) (k : IsD l v w) (hl : l.length ≤ 1073741824) : Calls Tryd.prog 35 #[u, v] w (Ans w (.bool true)) := by
  have := h.rsame k hl hl
  rwa [decide_eq_true (rfl : l = l)] at this
theorem pair_ne (a b : List Nd) : pairL 4 a b ≠ pairL 5 a b := by
  intro h
  unfold pairL at h
  have := List.append_cancel_left h
  simp at this
theorem wrap_ne (a : List Nd) (x y : Int) : wrapL 7 x y a ≠ wrapL 6 0 0 a := by
  intro h
  unfold wrapL at h
  have := List.append_cancel_left h
  simp at this
theorem txt_pair {a b : List Nd} (ha : Txt a) (hb : Txt b) (k : Int) : Txt (pairL k a b) := fun n hn => by
  unfold pairL at hn
  rw [List.mem_append, List.mem_append, List.mem_singleton] at hn
  rcases hn with (h | h) | h
  · exact ha n h
  · obtain ⟨m, hm, rfl⟩ := List.mem_map.1 h
    have e : ∀ (k : Int) (n : Nd), (mvN k n).text = n.text := fun k n => by unfold mvN; (repeat' split) <;> rfl
    rw [e]; exact hb m hm
  · subst h; show ([] : List UInt8).length ≤ _; simp
theorem txt_wrap {a : List Nd} (ha : Txt a) (k x y : Int) : Txt (wrapL k x y a) := fun n hn => by
  unfold wrapL at hn
  rw [List.mem_append, List.mem_singleton] at hn
  rcases hn with h | h
  · exact ha n h
  · subst h; show ([] : List UInt8).length ≤ _; simp
theorem pair_len (k : Int) (a b : List Nd) : (pairL k a b).length = a.length + b.length + 1 := by unfold pairL; simp; omega
theorem wrap_len (k x y : Int) (a : List Nd) : (wrapL k x y a).length = a.length + 1 := by unfold wrapL; simp
theorem Form.kinds {l : List Nd} (h : Form l) : ∀ n ∈ l, n.kind ≤ 9 := fun n hn => by
  obtain ⟨i, hi, e⟩ := List.mem_iff_getElem.1 hn
  have ha : atN l i = n := by unfold atN; rw [List.getD_eq_getElem?_getD, List.getElem?_eq_getElem hi]; exact e
  have := (h.2.1 i hi).kind9
  rwa [ha] at this
/-- The four that are built. -/
structure NbT (w0 : World) (A B S O R T : Option Addr) (a b s o r t : List Nd) (c1 c2 cs co cr ct bs bo br bt : Nat) (w : World) : Prop where
  i : NbS w0 A B a b c1 c2 w
  s : Bx bs S s cs w
  o : Bx bo O o co w
  r : Bx br R r cr w
  t : Bx bt T t ct w
theorem NbT.later {w0 w w' : World} {A B S O R T : Option Addr} {a b s o r t : List Nd} {c1 c2 cs co cr ct bs bo br bt : Nat} (h : NbT w0 A B S O R T a b s o r t c1 c2 cs co cr ct bs bo br bt w) (hb : Below w.heap.size w w') : NbT w0 A B S O R T a b s o r t c1 c2 cs co cr ct bs bo br bt w' := ⟨h.i.later hb, h.s.later hb, h.o.later hb, h.r.later hb, h.t.later hb⟩
set_option maxHeartbeats 64000000 in
set_option maxRecDepth 1000000 in
theorem nodebuilds_walk (a b : List Nd) (A B : Option Addr) (c1 c2 x y : Nat) (hx : x < 256) (hy : y < 256) (hc1 : a.length ≤ c1) (hc2 : b.length ≤ c2) (hl : a.length ≤ 9223372036854775807) (hm : b.length ≤ 9223372036854775807) (htx : Txt a) (htm : Txt b) (w : World) (hrow : NRow w A a) (hrm : NRow w B b) (hT : U8T w) :
    Calls Tryd.prog 6 #[.agg #[.slice A a.length c1], .agg #[.slice B b.length c2], .int .u8 (x : Int), .int .u8 (y : Int)] w (Ans w (.bool true)) := by
  have HS0 := Lib.hid (NbS.new w A B a b c1 c2 hrow hrm hc1 hc2 hT)
  have HTX := Lib.hid htx
  have HTM := Lib.hid htm
  clear hrow hrm hT htx htm
  go_enter Tryd.func6, Tryd.ntmps6
  go_upto_region 1 with (fail)
  generalize (w.alloc (.cells #[.slice A a.length c1] 49)).alloc (.cells #[.slice B b.length c2] 49) = w1 at *
  have e0 := HS0.out.x.load
  have e1 := HS0.out.y.load
  go_wp2_with fail
  refine (awake4_any _ HS0.out.u8).mono ?_; rintro e w2 ⟨rfl, hb2⟩
  have HS2 := Lib.hid (HS0.out.later hb2)
  clear hb2 e0 e1 HS0
  have e0 := HS2.out.x.load
  have e1 := HS2.out.y.load
  have HF := Lib.hid (few_any a A c1 hl HTX.out _ HS2.out.x.row)
  cases hf : fewB a with
  | false =>
    rw [hf] at HF
    clear hf
    go_wp2_with fail
    refine HF.out.mono ?_; rintro e w3 ⟨rfl, hb3⟩
    have HS3 := Lib.hid (HS2.out.later hb3)
    clear hb3 e0 e1
    go_wp2_with fail
    refine (awake4_any _ HS3.out.u8).mono ?_; rintro e WZ ⟨rfl, hbz⟩
    have HFZ := Lib.hid (HS3.out.later hbz).bel
    clear hbz
    go_wp2
    go_ret
    exact ⟨rfl, HFZ.out⟩
  | true =>
    rw [hf] at HF
    have L1 := Lib.hid (few_txt hf).1
    clear hf
    go_wp2_with fail
    refine HF.out.mono ?_; rintro e w3 ⟨rfl, hb3⟩
    have HS3 := Lib.hid (HS2.out.later hb3)
    clear hb3 e0 e1 HS2 HF
    have e0 := HS3.out.x.load
    have e1 := HS3.out.y.load
    have HF := Lib.hid (few_any b B c2 hm HTM.out _ HS3.out.y.row)
    cases hf : fewB b with
    | false =>
      rw [hf] at HF
      clear hf
      go_wp2_with fail
      refine HF.out.mono ?_; rintro e w4 ⟨rfl, hb4⟩
      have HS4 := Lib.hid (HS3.out.later hb4)
      clear hb4 e0 e1
      go_wp2_with fail
      refine (awake4_any _ HS4.out.u8).mono ?_; rintro e WZ ⟨rfl, hbz⟩
      have HFZ := Lib.hid (HS4.out.later hbz).bel
      clear hbz
      go_wp2
      go_ret
      exact ⟨rfl, HFZ.out⟩
    | true =>
      rw [hf] at HF
      have L2 := Lib.hid (few_txt hf).1
      clear hf
      go_wp2_with fail
      refine HF.out.mono ?_; rintro e w4 ⟨rfl, hb4⟩
      have HS4 := Lib.hid (HS3.out.later hb4)
      clear hb4 e0 e1 HS3 HF
      have e0 := HS4.out.x.load
      have e1 := HS4.out.y.load
      have HF := Lib.hid (refform_any a A c1 (by have := L1.out; omega) HTX.out _ HS4.out.x.row)
      cases hf : formB a with
      | false =>
        rw [hf] at HF
        clear hf
        go_wp2_with fail
        refine HF.out.mono ?_; rintro e w5 ⟨rfl, hb5⟩
        have HS5 := Lib.hid (HS4.out.later hb5)
        clear hb5 e0 e1
        go_wp2_with fail
        refine (awake4_any _ HS5.out.u8).mono ?_; rintro e WZ ⟨rfl, hbz⟩
        have HFZ := Lib.hid (HS5.out.later hbz).bel
        clear hbz
        go_wp2
        go_ret
        exact ⟨rfl, HFZ.out⟩
      | true =>
        rw [hf] at HF
        have HFA := Lib.hid ((formB_iff a).1 hf)
        clear hf
        go_wp2_with fail
        refine HF.out.mono ?_; rintro e w5 ⟨rfl, hb5⟩
        have HS5 := Lib.hid (HS4.out.later hb5)
        clear hb5 e0 e1 HS4 HF
        have e0 := HS5.out.x.load
        have e1 := HS5.out.y.load
        have HF := Lib.hid (refform_any b B c2 (by have := L2.out; omega) HTM.out _ HS5.out.y.row)
        cases hf : formB b with
        | false =>
          rw [hf] at HF
          clear hf
          go_wp2_with fail
          refine HF.out.mono ?_; rintro e w6 ⟨rfl, hb6⟩
          have HS6 := Lib.hid (HS5.out.later hb6)
          clear hb6 e0 e1
          go_wp2_with fail
          refine (awake4_any _ HS6.out.u8).mono ?_; rintro e WZ ⟨rfl, hbz⟩
          have HFZ := Lib.hid (HS6.out.later hbz).bel
          clear hbz
          go_wp2
          go_ret
          exact ⟨rfl, HFZ.out⟩
        | true =>
          rw [hf] at HF
          have HFB := Lib.hid ((formB_iff b).1 hf)
          clear hf
          by_cases hxy : y < x
          · have hxyz : ((x : Int) > (y : Int)) := by omega
            have hxyd : decide (y < x) = true := decide_eq_true hxy
            go_wp2_with fail
            refine HF.out.mono ?_; rintro e w6 ⟨rfl, hb6⟩
            have HS6 := Lib.hid (HS5.out.later hb6)
            clear hb6 e0 e1
            go_wp2_with fail
            refine (awake4_any _ HS6.out.u8).mono ?_; rintro e WZ ⟨rfl, hbz⟩
            have HFZ := Lib.hid (HS6.out.later hbz).bel
            clear hbz
            go_wp2
            go_ret
            exact ⟨rfl, HFZ.out⟩
          · have hxyz : ¬ ((x : Int) > (y : Int)) := by omega
            have hxyd : decide (y < x) = false := decide_eq_false hxy
            go_wp2_with fail
            refine HF.out.mono ?_; rintro e w6 ⟨rfl, hb6⟩
            have HS6 := Lib.hid (HS5.out.later hb6)
            clear hb6 e0 e1 HS5 HF
            have hla : a.length ≤ 100 := L1.out
            have hlb : b.length ≤ 100 := L2.out
            have hpa : 0 < a.length := HFA.out.1
            have hpb : 0 < b.length := HFB.out.1
            have MA := Lib.hid (HFA.out.mvOk HTX.out (by omega) (d := 0) (by omega) (by omega))
            have MB := Lib.hid (HFB.out.mvOk HTM.out (by omega) (d := (a.length : Int)) (by omega) (by omega))
            have FP : Hid (∀ (kind : Int) w', NbS w A B a b c1 c2 w' → Calls Tryd.prog 29 #[.int .i64 kind, .agg #[.slice A a.length c1], .agg #[.slice B b.length c2]] w' (DPost w' (pairL kind a b))) := fun kind w' h => IsD.pair h.x.isD h.y.isD kind hpa hpb (by omega) (by omega) MA.out MB.out
            have FW : Hid (∀ (kind lo hi : Int) w', NbS w A B a b c1 c2 w' → Calls Tryd.prog 30 #[.int .i64 kind, .int .i64 lo, .int .i64 hi, .agg #[.slice A a.length c1]] w' (DPost w' (wrapL kind lo hi a))) := fun kind lo hi w' h => IsD.wrap h.x.isD kind lo hi hpa (by omega) MA.out
            have hx255 : (x : Int) ≤ 255 := by omega
            have hy255 : (y : Int) ≤ 255 := by omega
            obtain ⟨s, hs⟩ : ∃ s, s = pairL 4 a b := ⟨_, rfl⟩
            obtain ⟨o, ho⟩ : ∃ o, o = pairL 5 a b := ⟨_, rfl⟩
            obtain ⟨r, hr⟩ : ∃ r, r = wrapL 7 (x : Int) (y : Int) a := ⟨_, rfl⟩
            obtain ⟨t, ht⟩ : ∃ t, t = wrapL 6 0 0 a := ⟨_, rfl⟩
            have FS := Lib.hid (FP.out 4)
            have FO := Lib.hid (FP.out 5)
            have FR := Lib.hid (FW.out 7 (x : Int) (y : Int))
            have FT := Lib.hid (FW.out 6 0 0)
            rw [← hs] at FS
            rw [← ho] at FO
            rw [← hr] at FR
            rw [← ht] at FT
            have DS := Lib.hid hs
            have DO := Lib.hid ho
            have DR := Lib.hid hr
            have DT := Lib.hid ht
            have HXY : Hid (x ≤ y) := by unfold Hid; omega
            clear hs ho hr ht FP FW
            have e0 := HS6.out.x.load
            have e1 := HS6.out.y.load
            go_wp2_with fail
            clear hxyz hxyd hxy
            refine (FS.out _ HS6.out).mono ?_; intro e wq hp; obtain ⟨sv, rfl, ho, hbq⟩ := hp
            obtain ⟨S, cs, hcs, hvs, hrs⟩ := ho.isD
            obtain rfl : sv = .slice S s.length cs := by simpa using hvs
            have hb6 := (Below.refl wq.heap.size wq).alloc (Nat.le_refl _) (.cells #[.slice S s.length cs] 49)
            have HSn := Lib.hid ((HS6.out.later hbq).later hb6)
            have HXs : Hid (Bx wq.heap.size S s cs (wq.alloc (.cells #[.slice S s.length cs] 49))) := ⟨Blk.new _ _ _, hrs.later hb6, hcs⟩
            have HBQ := Lib.hid hbq
            have HB6 := Lib.hid hb6
            clear hb6 hbq hrs hvs ho e0 e1 HS6
            have HS6 := HSn
            clear HSn hcs
            go_upto_region 4 with (fail)
            generalize wq.alloc (.cells #[.slice S s.length cs] 49) = w8 at *
            generalize wq.heap.size = bs at *
            have e0 := HS6.out.x.load
            have e1 := HS6.out.y.load
            go_wp2_with fail
            refine (FO.out _ HS6.out).mono ?_; intro e wq hp; obtain ⟨sv, rfl, ho, hbq⟩ := hp
            obtain ⟨O, co, hcs, hvs, hrs⟩ := ho.isD
            obtain rfl : sv = .slice O o.length co := by simpa using hvs
            have hb6 := (Below.refl wq.heap.size wq).alloc (Nat.le_refl _) (.cells #[.slice O o.length co] 49)
            have HSn := Lib.hid ((HS6.out.later hbq).later hb6)
            have HXo : Hid (Bx wq.heap.size O o co (wq.alloc (.cells #[.slice O o.length co] 49))) := ⟨Blk.new _ _ _, hrs.later hb6, hcs⟩
            have HBQ := Lib.hid hbq
            have HB6 := Lib.hid hb6
            clear hb6 hbq hrs hvs ho e0 e1 HS6
            have HS6 := HSn
            clear HSn hcs
            have HXs2 := Lib.hid ((HXs.out.later HBQ.out).later HB6.out)
            clear HXs HBQ HB6
            go_upto_region 5 with (fail)
            generalize wq.alloc (.cells #[.slice O o.length co] 49) = w10 at *
            generalize wq.heap.size = bo at *
            have e0 := HS6.out.x.load
            have e1 := HS6.out.y.load
            go_wp2_with fail
            refine (FR.out _ HS6.out).mono ?_; intro e wq hp; obtain ⟨sv, rfl, ho, hbq⟩ := hp
            obtain ⟨R, cr, hcs, hvs, hrs⟩ := ho.isD
            obtain rfl : sv = .slice R r.length cr := by simpa using hvs
            have hb6 := (Below.refl wq.heap.size wq).alloc (Nat.le_refl _) (.cells #[.slice R r.length cr] 49)
            have HSn := Lib.hid ((HS6.out.later hbq).later hb6)
            have HXr : Hid (Bx wq.heap.size R r cr (wq.alloc (.cells #[.slice R r.length cr] 49))) := ⟨Blk.new _ _ _, hrs.later hb6, hcs⟩
            have HBQ := Lib.hid hbq
            have HB6 := Lib.hid hb6
            clear hb6 hbq hrs hvs ho e0 e1 HS6
            have HS6 := HSn
            clear HSn hcs
            have HXs3 := Lib.hid ((HXs2.out.later HBQ.out).later HB6.out)
            have HXo3 := Lib.hid ((HXo.out.later HBQ.out).later HB6.out)
            clear HXs2 HXo HBQ HB6
            go_upto_region 6 with (fail)
            generalize wq.alloc (.cells #[.slice R r.length cr] 49) = w12 at *
            generalize wq.heap.size = br at *
            have e0 := HS6.out.x.load
            have e1 := HS6.out.y.load
            go_wp2_with fail
            refine (FT.out _ HS6.out).mono ?_; intro e wq hp; obtain ⟨sv, rfl, ho, hbq⟩ := hp
            obtain ⟨T, ct, hcs, hvs, hrs⟩ := ho.isD
            obtain rfl : sv = .slice T t.length ct := by simpa using hvs
            have hb6 := (Below.refl wq.heap.size wq).alloc (Nat.le_refl _) (.cells #[.slice T t.length ct] 49)
            have HSn := Lib.hid ((HS6.out.later hbq).later hb6)
            have HXt : Hid (Bx wq.heap.size T t ct (wq.alloc (.cells #[.slice T t.length ct] 49))) := ⟨Blk.new _ _ _, hrs.later hb6, hcs⟩
            have HBQ := Lib.hid hbq
            have HB6 := Lib.hid hb6
            clear hb6 hbq hrs hvs ho e0 e1 HS6
            have HS6 := HSn
            clear HSn hcs
            have HT : Hid (NbT w A B S O R T a b s o r t c1 c2 cs co cr ct bs bo br wq.heap.size (wq.alloc (.cells #[.slice T t.length ct] 49))) := ⟨HS6.out, (HXs3.out.later HBQ.out).later HB6.out, (HXo3.out.later HBQ.out).later HB6.out, (HXr.out.later HBQ.out).later HB6.out, HXt.out⟩
            clear HXs3 HXo3 HXr HBQ HB6 HXt HS6
            go_upto_region 7 with (fail)
            generalize wq.alloc (.cells #[.slice T t.length ct] 49) = w14 at *
            generalize wq.heap.size = bt at *
            clear FS FO FR FT
            have GS : Hid (Form s) := by unfold Hid; rw [DS.out]; exact pair_form HFA.out HFB.out (.inl rfl)
            have GO : Hid (Form o) := by unfold Hid; rw [DO.out]; exact pair_form HFA.out HFB.out (.inr rfl)
            have GR : Hid (Form r) := by unfold Hid; rw [DR.out]; exact wrap_form7 HFA.out (by omega) (by have := HXY.out; omega) hy255
            have GT : Hid (Form t) := by unfold Hid; rw [DT.out]; exact wrap_form HFA.out (.inl rfl) ⟨rfl, rfl⟩
            have XS : Hid (Txt s) := by unfold Hid; rw [DS.out]; exact txt_pair HTX.out HTM.out 4
            have XO : Hid (Txt o) := by unfold Hid; rw [DO.out]; exact txt_pair HTX.out HTM.out 5
            have XR : Hid (Txt r) := by unfold Hid; rw [DR.out]; exact txt_wrap HTX.out 7 _ _
            have XT : Hid (Txt t) := by unfold Hid; rw [DT.out]; exact txt_wrap HTX.out 6 _ _
            have ZS : Hid (s.length = a.length + b.length + 1) := by unfold Hid; rw [DS.out]; exact pair_len 4 a b
            have ZO : Hid (o.length = a.length + b.length + 1) := by unfold Hid; rw [DO.out]; exact pair_len 5 a b
            have ZR : Hid (r.length = a.length + 1) := by unfold Hid; rw [DR.out]; exact wrap_len 7 _ _ a
            have ZT : Hid (t.length = a.length + 1) := by unfold Hid; rw [DT.out]; exact wrap_len 6 _ _ a
            have zs := ZS.out
            have zo := ZO.out
            have zr := ZR.out
            have zt := ZT.out
            have KS : Hid (∀ w', NbT w A B S O R T a b s o r t c1 c2 cs co cr ct bs bo br bt w' → Calls Tryd.prog 31 #[.agg #[.slice S s.length cs]] w' (Ans w' (.bool true))) := fun w' h => by
              have := h.s.isD.form (by omega) XS.out h.i.u8
              rwa [formB_eq GS.out] at this
            have KO : Hid (∀ w', NbT w A B S O R T a b s o r t c1 c2 cs co cr ct bs bo br bt w' → Calls Tryd.prog 31 #[.agg #[.slice O o.length co]] w' (Ans w' (.bool true))) := fun w' h => by
              have := h.o.isD.form (by omega) XO.out h.i.u8
              rwa [formB_eq GO.out] at this
            have KR : Hid (∀ w', NbT w A B S O R T a b s o r t c1 c2 cs co cr ct bs bo br bt w' → Calls Tryd.prog 31 #[.agg #[.slice R r.length cr]] w' (Ans w' (.bool true))) := fun w' h => by
              have := h.r.isD.form (by omega) XR.out h.i.u8
              rwa [formB_eq GR.out] at this
            have KT : Hid (∀ w', NbT w A B S O R T a b s o r t c1 c2 cs co cr ct bs bo br bt w' → Calls Tryd.prog 31 #[.agg #[.slice T t.length ct]] w' (Ans w' (.bool true))) := fun w' h => by
              have := h.t.isD.form (by omega) XT.out h.i.u8
              rwa [formB_eq GT.out] at this
            have PS := Lib.hid (pair_sub HFA.out HFB.out (kind := 4))
            have PO := Lib.hid (pair_sub HFA.out HFB.out (kind := 5))
            rw [← DS.out] at PS
            rw [← DO.out] at PO
            have SbA : Hid (∀ w', NbT w A B S O R T a b s o r t c1 c2 cs co cr ct bs bo br bt w' → Calls Tryd.prog 33 #[.agg #[.slice S s.length cs], .int .i64 ((a.length : Int) - 1)] w' (DPost w' a)) := fun w' h => by
              have := sub_any s S cs (a.length - 1) h.s.cap (by omega) (by omega) (GS.out.okTo (by omega)) XS.out w' h.s.row
              rwa [PS.out.1, show ((a.length - 1 : Nat) : Int) = (a.length : Int) - 1 by omega] at this
            have SbB : Hid (∀ w', NbT w A B S O R T a b s o r t c1 c2 cs co cr ct bs bo br bt w' → Calls Tryd.prog 33 #[.agg #[.slice S s.length cs], .int .i64 ((a.length : Int) + (b.length : Int) - 1)] w' (DPost w' b)) := fun w' h => by
              have := sub_any s S cs (a.length + b.length - 1) h.s.cap (by omega) (by omega) (GS.out.okTo (by omega)) XS.out w' h.s.row
              rwa [PS.out.2.1, show ((a.length + b.length - 1 : Nat) : Int) = (a.length : Int) + (b.length : Int) - 1 by omega] at this
            have SbO : Hid (∀ w', NbT w A B S O R T a b s o r t c1 c2 cs co cr ct bs bo br bt w' → Calls Tryd.prog 33 #[.agg #[.slice O o.length co], .int .i64 ((a.length : Int) + (b.length : Int) - 1)] w' (DPost w' b)) := fun w' h => by
              have := sub_any o O co (a.length + b.length - 1) h.o.cap (by omega) (by omega) (GO.out.okTo (by omega)) XO.out w' h.o.row
              rwa [PO.out.2.1, show ((a.length + b.length - 1 : Nat) : Int) = (a.length : Int) + (b.length : Int) - 1 by omega] at this
            have SbR : Hid (∀ w', NbT w A B S O R T a b s o r t c1 c2 cs co cr ct bs bo br bt w' → Calls Tryd.prog 33 #[.agg #[.slice R r.length cr], .int .i64 ((a.length : Int) - 1)] w' (DPost w' a)) := fun w' h => by
              have := sub_any r R cr (a.length - 1) h.r.cap (by omega) (by omega) (GR.out.okTo (by omega)) XR.out w' h.r.row
              have e : subL r (a.length - 1) = a := by rw [DR.out]; exact wrap_sub HFA.out 7 _ _
              rwa [e, show ((a.length - 1 : Nat) : Int) = (a.length : Int) - 1 by omega] at this
            have SbS : Hid (∀ w', NbT w A B S O R T a b s o r t c1 c2 cs co cr ct bs bo br bt w' → Calls Tryd.prog 33 #[.agg #[.slice S s.length cs], .int .i64 ((a.length : Int) + (b.length : Int))] w' (DPost w' s)) := fun w' h => by
              have := sub_any s S cs (s.length - 1) h.s.cap (by omega) (by omega) (GS.out.okTo (by omega)) XS.out w' h.s.row
              rwa [form_last GS.out, show ((s.length - 1 : Nat) : Int) = (a.length : Int) + (b.length : Int) by omega] at this
            have NSO : Hid (∀ w', NbT w A B S O R T a b s o r t c1 c2 cs co cr ct bs bo br bt w' → Calls Tryd.prog 32 #[.agg #[.slice S s.length cs], .agg #[.slice O o.length co]] w' (Ans w' (.bool false))) := fun w' h => by
              have := h.s.isD.same h.o.isD (by omega) (by omega)
              rwa [decide_eq_false (by rw [DS.out, DO.out]; exact pair_ne a b)] at this
            have NRT : Hid (∀ w', NbT w A B S O R T a b s o r t c1 c2 cs co cr ct bs bo br bt w' → Calls Tryd.prog 32 #[.agg #[.slice R r.length cr], .agg #[.slice T t.length ct]] w' (Ans w' (.bool false))) := fun w' h => by
              have := h.r.isD.same h.t.isD (by omega) (by omega)
              rwa [decide_eq_false (by rw [DR.out, DT.out]; exact wrap_ne a _ _)] at this
            have FI : Hid (∀ w', NbT w A B S O R T a b s o r t c1 c2 cs co cr ct bs bo br bt w' → Calls Tryd.prog 34 #[.agg #[.slice S s.length cs], .int .i64 ((a.length : Int) + (b.length : Int) - 1)] w' (Ans w' (.int .i64 (a.length : Int)))) := fun w' h => by
              have := first_any s S cs (a.length + b.length - 1) (by omega) w' h.s.row
              rwa [PS.out.2.2, show ((a.length + b.length - 1 : Nat) : Int) = (a.length : Int) + (b.length : Int) - 1 by omega] at this
            have RP : Hid (∀ w', NbT w A B S O R T a b s o r t c1 c2 cs co cr ct bs bo br bt w' → Calls Tryd.prog 36 #[.int .i64 4, .agg #[.slice A a.length c1], .agg #[.slice B b.length c2]] w' (DPost w' s)) := fun w' h => by
              have := rpairs_any 4 a b A B c1 c2 hpa hpb (by omega) (by omega) (fun n hn => ⟨MA.out n hn, HFA.out.kinds n hn⟩) (fun n hn => ⟨MB.out n hn, HFB.out.kinds n hn⟩) w' h.i.x.row h.i.y.row
              rwa [← DS.out] at this
            have RW : Hid (∀ w', NbT w A B S O R T a b s o r t c1 c2 cs co cr ct bs bo br bt w' → Calls Tryd.prog 37 #[.int .i64 7, .int .i64 (x : Int), .int .i64 (y : Int), .agg #[.slice A a.length c1]] w' (DPost w' r)) := fun w' h => by
              have := rwrap_any 7 (x : Int) (y : Int) a A c1 hpa (by omega) (fun n hn => ⟨MA.out n hn, HFA.out.kinds n hn⟩) w' h.i.x.row
              rwa [← DR.out] at this
            have hl1 : ((s.length : Int) != (a.length : Int) + (b.length : Int) + 1) = false := by rw [bne_eq_false_iff_eq]; omega
            have hl2 : ((r.length : Int) != (a.length : Int) + 1) = false := by rw [bne_eq_false_iff_eq]; omega
            have hl3 : ((t.length : Int) != (a.length : Int) + 1) = false := by rw [bne_eq_false_iff_eq]; omega
            have haz : (a.length : Int) ≤ 100 := by omega
            have hbz : (b.length : Int) ≤ 100 := by omega
            have hap : (1 : Int) ≤ (a.length : Int) := by omega
            have hbp : (1 : Int) ≤ (b.length : Int) := by omega
            have haa : ((a.length : Int) == (a.length : Int)) = true := beq_self_eq_true _
            have QS : Hid (s.length ≤ 1073741824) := by unfold Hid; omega
            have QR : Hid (r.length ≤ 1073741824) := by unfold Hid; omega
            have QA : Hid (a.length ≤ 1073741824) := by unfold Hid; omega
            have QB : Hid (b.length ≤ 1073741824) := by unfold Hid; omega
            clear zs zo zr zt
            have ea := HT.out.i.x.load
            have eb := HT.out.i.y.load
            have es := HT.out.s.load
            have eo := HT.out.o.load
            have er := HT.out.r.load
            have et := HT.out.t.load
            go_wp2_with fail
            refine (KS.out _ HT.out).mono ?_; rintro e wq ⟨rfl, hbq⟩
            have HTq := Lib.hid (HT.out.later hbq)
            clear ea eb es eo er et
            clear hbq HT
            have HT := HTq
            clear HTq
            have ea := HT.out.i.x.load
            have eb := HT.out.i.y.load
            have es := HT.out.s.load
            have eo := HT.out.o.load
            have er := HT.out.r.load
            have et := HT.out.t.load
            go_wp2_with fail
            refine (KO.out _ HT.out).mono ?_; rintro e wq ⟨rfl, hbq⟩
            have HTq := Lib.hid (HT.out.later hbq)
            clear ea eb es eo er et
            clear hbq HT
            have HT := HTq
            clear HTq
            have ea := HT.out.i.x.load
            have eb := HT.out.i.y.load
            have es := HT.out.s.load
            have eo := HT.out.o.load
            have er := HT.out.r.load
            have et := HT.out.t.load
            go_wp2_with fail
            refine (KR.out _ HT.out).mono ?_; rintro e wq ⟨rfl, hbq⟩
            have HTq := Lib.hid (HT.out.later hbq)
            clear ea eb es eo er et
            clear hbq HT
            have HT := HTq
            clear HTq
            have ea := HT.out.i.x.load
            have eb := HT.out.i.y.load
            have es := HT.out.s.load
            have eo := HT.out.o.load
            have er := HT.out.r.load
            have et := HT.out.t.load
            go_wp2_with fail
            refine (KT.out _ HT.out).mono ?_; rintro e wq ⟨rfl, hbq⟩
            have HTq := Lib.hid (HT.out.later hbq)
            clear ea eb es eo er et
            clear hbq HT
            have HT := HTq
            clear HTq
            have ea := HT.out.i.x.load
            have eb := HT.out.i.y.load
            have es := HT.out.s.load
            have eo := HT.out.o.load
            have er := HT.out.r.load
            have et := HT.out.t.load
            go_upto_region 11 with (fail)
            clear ea eb es eo er et
            refine wp_region_stable (S := (NbT w A B S O R T a b s o r t c1 c2 cs co cr ct bs bo br bt)) (hSt := fun _ _ h hb => h.later hb) (plan := [[(9, none)], [(13, none)], [(108, some 1)], [(107, some 0), (109, some 2)], [(4, none)], [(110, some 3), (111, some 4)], [(112, some 5)], [(9, none)], [(13, none)], [(14, none)], [(115, some 8), (116, some 9)], [(117, some 10)], [(114, some 7), (118, some 11)], [(5, none)], [(119, some 12), (120, some 13)], [(113, some 6), (121, some 14)], [(122, some 15)], [(10, none)], [(13, none)], [(14, none)], [(125, some 18), (126, some 19)], [(127, some 20)], [(124, some 17), (128, some 21)], [(5, none)], [(129, some 22), (130, some 23)], [(123, some 16), (131, some 24)], [(132, some 25)], [(11, none)], [(13, none)], [(135, some 28)], [(134, some 27), (136, some 29)], [(4, none)], [(137, some 30), (138, some 31)], [(133, some 26), (139, some 32)], [(140, some 33)], [(9, none)], [(13, none)], [(14, none)], [(143, some 36), (144, some 37)], [(142, some 35), (145, some 38)], [(9, none)], [(146, some 39), (147, some 40)], [(141, some 34), (148, some 41)], [(149, some 42)], [(9, none)], [(10, none)], [(151, some 44), (152, some 45)], [(153, some 46)], [(150, some 43), (154, some 47)], [(155, some 48)], [(11, none)], [(12, none)], [(157, some 50), (158, some 51)], [(159, some 52)], [(156, some 49), (160, some 53)], [(161, some 54)], [(9, none)], [(13, none)], [(14, none)], [(164, some 57), (165, some 58)], [(166, some 59)], [(163, some 56), (167, some 60)], [(13, none)], [(168, some 61), (169, some 62)], [(162, some 55), (170, some 63)], [(171, some 64)], [(9, none)], [(4, none)], [(5, none)], [(174, some 67), (175, some 68)], [(173, some 66), (176, some 69)], [(172, some 65), (177, some 70)], [(178, some 71)], [(11, none)], [(2, none)], [(181, some 74)], [(3, none)], [(183, some 76)], [(4, none)], [(182, some 75), (184, some 77), (185, some 78)], [(180, some 73), (186, some 79)], [(179, some 72), (187, some 80)], [(188, some 81)]]) (by kernel_rfl) (by kernel_rfl) (by kernel_rfl) ?hS ?_
            rotate_left
            iterate 3 first
              | (refine chain_skip (by rfl) (by rfl) ?_)
              | (apply chain_want (by rfl)
                 · intro act wx hS hr
                   simp at hr
                   have ea := hS.i.x.load
                   have eb := hS.i.y.load
                   have es := hS.s.load
                   have eo := hS.o.load
                   have er := hS.r.load
                   have et := hS.t.load
                   go_simp
                   (try go_ints)
                   first
                     | (obtain ⟨⟨v, hr2, hv⟩, hr3⟩ := hr; simp only [hr2, hr3, Option.getD_some]; refine (hv.sameT hS.i.x.isD QA.out).mono ?_; rintro e w' ⟨rfl, hb⟩; exact Done.mk (v := .bool true) hb)
                     | (obtain ⟨⟨v, hr2, hv⟩, hr3⟩ := hr; simp only [hr2, hr3, Option.getD_some]; refine (hv.sameT hS.i.y.isD QB.out).mono ?_; rintro e w' ⟨rfl, hb⟩; exact Done.mk (v := .bool true) hb)
                     | (obtain ⟨⟨v, hr2, hv⟩, hr3⟩ := hr; simp only [hr2, hr3, Option.getD_some]; refine (hv.sameT hS.s.isD QS.out).mono ?_; rintro e w' ⟨rfl, hb⟩; exact Done.mk (v := .bool true) hb)
                     | (obtain ⟨hr3, v, hr2, hv⟩ := hr; simp only [hr2, hr3, Option.getD_some]; refine (hS.s.isD.rsameT hv QS.out).mono ?_; rintro e w' ⟨rfl, hb⟩; exact Done.mk (v := .bool true) hb)
                     | (obtain ⟨hr3, v, hr2, hv⟩ := hr; simp only [hr2, hr3, Option.getD_some]; refine (hS.r.isD.rsameT hv QR.out).mono ?_; rintro e w' ⟨rfl, hb⟩; exact Done.mk (v := .bool true) hb)
                     | ((with_reducible refine (NSO.out _ hS).mono ?_); rintro e w' ⟨rfl, hb⟩; exact Done.mk hb)
                     | ((with_reducible refine (NRT.out _ hS).mono ?_); rintro e w' ⟨rfl, hb⟩; exact Done.mk hb)
                     | ((with_reducible refine (FI.out _ hS).mono ?_); rintro e w' ⟨rfl, hb⟩; exact Done.mk hb)
                     | exact Done.same
                )
            (refine chain_rel (IsD a) (IsD.later _) (by rfl) ?_ ?_
             · intro act wx hS hr
               simp at hr
               have ea := hS.i.x.load
               have eb := hS.i.y.load
               have es := hS.s.load
               have eo := hS.o.load
               have er := hS.r.load
               have et := hS.t.load
               all_goals go_simp
               ((with_reducible refine (SbA.out _ hS).mono ?_); intro e w' hp; obtain ⟨v, rfl, ho, hb⟩ := hp; exact Done.rel hb ho.isD)
            )
            iterate 8 first
              | (refine chain_skip (by rfl) (by rfl) ?_)
              | (apply chain_want (by rfl)
                 · intro act wx hS hr
                   simp at hr
                   have ea := hS.i.x.load
                   have eb := hS.i.y.load
                   have es := hS.s.load
                   have eo := hS.o.load
                   have er := hS.r.load
                   have et := hS.t.load
                   go_simp
                   (try go_ints)
                   first
                     | (obtain ⟨⟨v, hr2, hv⟩, hr3⟩ := hr; simp only [hr2, hr3, Option.getD_some]; refine (hv.sameT hS.i.x.isD QA.out).mono ?_; rintro e w' ⟨rfl, hb⟩; exact Done.mk (v := .bool true) hb)
                     | (obtain ⟨⟨v, hr2, hv⟩, hr3⟩ := hr; simp only [hr2, hr3, Option.getD_some]; refine (hv.sameT hS.i.y.isD QB.out).mono ?_; rintro e w' ⟨rfl, hb⟩; exact Done.mk (v := .bool true) hb)
                     | (obtain ⟨⟨v, hr2, hv⟩, hr3⟩ := hr; simp only [hr2, hr3, Option.getD_some]; refine (hv.sameT hS.s.isD QS.out).mono ?_; rintro e w' ⟨rfl, hb⟩; exact Done.mk (v := .bool true) hb)
                     | (obtain ⟨hr3, v, hr2, hv⟩ := hr; simp only [hr2, hr3, Option.getD_some]; refine (hS.s.isD.rsameT hv QS.out).mono ?_; rintro e w' ⟨rfl, hb⟩; exact Done.mk (v := .bool true) hb)
                     | (obtain ⟨hr3, v, hr2, hv⟩ := hr; simp only [hr2, hr3, Option.getD_some]; refine (hS.r.isD.rsameT hv QR.out).mono ?_; rintro e w' ⟨rfl, hb⟩; exact Done.mk (v := .bool true) hb)
                     | ((with_reducible refine (NSO.out _ hS).mono ?_); rintro e w' ⟨rfl, hb⟩; exact Done.mk hb)
                     | ((with_reducible refine (NRT.out _ hS).mono ?_); rintro e w' ⟨rfl, hb⟩; exact Done.mk hb)
                     | ((with_reducible refine (FI.out _ hS).mono ?_); rintro e w' ⟨rfl, hb⟩; exact Done.mk hb)
                     | exact Done.same
                )
            (refine chain_rel (IsD b) (IsD.later _) (by rfl) ?_ ?_
             · intro act wx hS hr
               simp at hr
               have ea := hS.i.x.load
               have eb := hS.i.y.load
               have es := hS.s.load
               have eo := hS.o.load
               have er := hS.r.load
               have et := hS.t.load
               all_goals go_simp
               ((with_reducible refine (SbB.out _ hS).mono ?_); intro e w' hp; obtain ⟨v, rfl, ho, hb⟩ := hp; exact Done.rel hb ho.isD)
            )
            iterate 9 first
              | (refine chain_skip (by rfl) (by rfl) ?_)
              | (apply chain_want (by rfl)
                 · intro act wx hS hr
                   simp at hr
                   have ea := hS.i.x.load
                   have eb := hS.i.y.load
                   have es := hS.s.load
                   have eo := hS.o.load
                   have er := hS.r.load
                   have et := hS.t.load
                   go_simp
                   (try go_ints)
                   first
                     | (obtain ⟨⟨v, hr2, hv⟩, hr3⟩ := hr; simp only [hr2, hr3, Option.getD_some]; refine (hv.sameT hS.i.x.isD QA.out).mono ?_; rintro e w' ⟨rfl, hb⟩; exact Done.mk (v := .bool true) hb)
                     | (obtain ⟨⟨v, hr2, hv⟩, hr3⟩ := hr; simp only [hr2, hr3, Option.getD_some]; refine (hv.sameT hS.i.y.isD QB.out).mono ?_; rintro e w' ⟨rfl, hb⟩; exact Done.mk (v := .bool true) hb)
                     | (obtain ⟨⟨v, hr2, hv⟩, hr3⟩ := hr; simp only [hr2, hr3, Option.getD_some]; refine (hv.sameT hS.s.isD QS.out).mono ?_; rintro e w' ⟨rfl, hb⟩; exact Done.mk (v := .bool true) hb)
                     | (obtain ⟨hr3, v, hr2, hv⟩ := hr; simp only [hr2, hr3, Option.getD_some]; refine (hS.s.isD.rsameT hv QS.out).mono ?_; rintro e w' ⟨rfl, hb⟩; exact Done.mk (v := .bool true) hb)
                     | (obtain ⟨hr3, v, hr2, hv⟩ := hr; simp only [hr2, hr3, Option.getD_some]; refine (hS.r.isD.rsameT hv QR.out).mono ?_; rintro e w' ⟨rfl, hb⟩; exact Done.mk (v := .bool true) hb)
                     | ((with_reducible refine (NSO.out _ hS).mono ?_); rintro e w' ⟨rfl, hb⟩; exact Done.mk hb)
                     | ((with_reducible refine (NRT.out _ hS).mono ?_); rintro e w' ⟨rfl, hb⟩; exact Done.mk hb)
                     | ((with_reducible refine (FI.out _ hS).mono ?_); rintro e w' ⟨rfl, hb⟩; exact Done.mk hb)
                     | exact Done.same
                )
            (refine chain_rel (IsD b) (IsD.later _) (by rfl) ?_ ?_
             · intro act wx hS hr
               simp at hr
               have ea := hS.i.x.load
               have eb := hS.i.y.load
               have es := hS.s.load
               have eo := hS.o.load
               have er := hS.r.load
               have et := hS.t.load
               all_goals go_simp
               ((with_reducible refine (SbO.out _ hS).mono ?_); intro e w' hp; obtain ⟨v, rfl, ho, hb⟩ := hp; exact Done.rel hb ho.isD)
            )
            iterate 7 first
              | (refine chain_skip (by rfl) (by rfl) ?_)
              | (apply chain_want (by rfl)
                 · intro act wx hS hr
                   simp at hr
                   have ea := hS.i.x.load
                   have eb := hS.i.y.load
                   have es := hS.s.load
                   have eo := hS.o.load
                   have er := hS.r.load
                   have et := hS.t.load
                   go_simp
                   (try go_ints)
                   first
                     | (obtain ⟨⟨v, hr2, hv⟩, hr3⟩ := hr; simp only [hr2, hr3, Option.getD_some]; refine (hv.sameT hS.i.x.isD QA.out).mono ?_; rintro e w' ⟨rfl, hb⟩; exact Done.mk (v := .bool true) hb)
                     | (obtain ⟨⟨v, hr2, hv⟩, hr3⟩ := hr; simp only [hr2, hr3, Option.getD_some]; refine (hv.sameT hS.i.y.isD QB.out).mono ?_; rintro e w' ⟨rfl, hb⟩; exact Done.mk (v := .bool true) hb)
                     | (obtain ⟨⟨v, hr2, hv⟩, hr3⟩ := hr; simp only [hr2, hr3, Option.getD_some]; refine (hv.sameT hS.s.isD QS.out).mono ?_; rintro e w' ⟨rfl, hb⟩; exact Done.mk (v := .bool true) hb)
                     | (obtain ⟨hr3, v, hr2, hv⟩ := hr; simp only [hr2, hr3, Option.getD_some]; refine (hS.s.isD.rsameT hv QS.out).mono ?_; rintro e w' ⟨rfl, hb⟩; exact Done.mk (v := .bool true) hb)
                     | (obtain ⟨hr3, v, hr2, hv⟩ := hr; simp only [hr2, hr3, Option.getD_some]; refine (hS.r.isD.rsameT hv QR.out).mono ?_; rintro e w' ⟨rfl, hb⟩; exact Done.mk (v := .bool true) hb)
                     | ((with_reducible refine (NSO.out _ hS).mono ?_); rintro e w' ⟨rfl, hb⟩; exact Done.mk hb)
                     | ((with_reducible refine (NRT.out _ hS).mono ?_); rintro e w' ⟨rfl, hb⟩; exact Done.mk hb)
                     | ((with_reducible refine (FI.out _ hS).mono ?_); rintro e w' ⟨rfl, hb⟩; exact Done.mk hb)
                     | exact Done.same
                )
            (refine chain_rel (IsD a) (IsD.later _) (by rfl) ?_ ?_
             · intro act wx hS hr
               simp at hr
               have ea := hS.i.x.load
               have eb := hS.i.y.load
               have es := hS.s.load
               have eo := hS.o.load
               have er := hS.r.load
               have et := hS.t.load
               all_goals go_simp
               ((with_reducible refine (SbR.out _ hS).mono ?_); intro e w' hp; obtain ⟨v, rfl, ho, hb⟩ := hp; exact Done.rel hb ho.isD)
            )
            iterate 8 first
              | (refine chain_skip (by rfl) (by rfl) ?_)
              | (apply chain_want (by rfl)
                 · intro act wx hS hr
                   simp at hr
                   have ea := hS.i.x.load
                   have eb := hS.i.y.load
                   have es := hS.s.load
                   have eo := hS.o.load
                   have er := hS.r.load
                   have et := hS.t.load
                   go_simp
                   (try go_ints)
                   first
                     | (obtain ⟨⟨v, hr2, hv⟩, hr3⟩ := hr; simp only [hr2, hr3, Option.getD_some]; refine (hv.sameT hS.i.x.isD QA.out).mono ?_; rintro e w' ⟨rfl, hb⟩; exact Done.mk (v := .bool true) hb)
                     | (obtain ⟨⟨v, hr2, hv⟩, hr3⟩ := hr; simp only [hr2, hr3, Option.getD_some]; refine (hv.sameT hS.i.y.isD QB.out).mono ?_; rintro e w' ⟨rfl, hb⟩; exact Done.mk (v := .bool true) hb)
                     | (obtain ⟨⟨v, hr2, hv⟩, hr3⟩ := hr; simp only [hr2, hr3, Option.getD_some]; refine (hv.sameT hS.s.isD QS.out).mono ?_; rintro e w' ⟨rfl, hb⟩; exact Done.mk (v := .bool true) hb)
                     | (obtain ⟨hr3, v, hr2, hv⟩ := hr; simp only [hr2, hr3, Option.getD_some]; refine (hS.s.isD.rsameT hv QS.out).mono ?_; rintro e w' ⟨rfl, hb⟩; exact Done.mk (v := .bool true) hb)
                     | (obtain ⟨hr3, v, hr2, hv⟩ := hr; simp only [hr2, hr3, Option.getD_some]; refine (hS.r.isD.rsameT hv QR.out).mono ?_; rintro e w' ⟨rfl, hb⟩; exact Done.mk (v := .bool true) hb)
                     | ((with_reducible refine (NSO.out _ hS).mono ?_); rintro e w' ⟨rfl, hb⟩; exact Done.mk hb)
                     | ((with_reducible refine (NRT.out _ hS).mono ?_); rintro e w' ⟨rfl, hb⟩; exact Done.mk hb)
                     | ((with_reducible refine (FI.out _ hS).mono ?_); rintro e w' ⟨rfl, hb⟩; exact Done.mk hb)
                     | exact Done.same
                )
            (refine chain_rel (IsD s) (IsD.later _) (by rfl) ?_ ?_
             · intro act wx hS hr
               simp at hr
               have ea := hS.i.x.load
               have eb := hS.i.y.load
               have es := hS.s.load
               have eo := hS.o.load
               have er := hS.r.load
               have et := hS.t.load
               all_goals go_simp
               ((with_reducible refine (SbS.out _ hS).mono ?_); intro e w' hp; obtain ⟨v, rfl, ho, hb⟩ := hp; exact Done.rel hb ho.isD)
            )
            iterate 29 first
              | (refine chain_skip (by rfl) (by rfl) ?_)
              | (apply chain_want (by rfl)
                 · intro act wx hS hr
                   simp at hr
                   have ea := hS.i.x.load
                   have eb := hS.i.y.load
                   have es := hS.s.load
                   have eo := hS.o.load
                   have er := hS.r.load
                   have et := hS.t.load
                   go_simp
                   (try go_ints)
                   first
                     | (obtain ⟨⟨v, hr2, hv⟩, hr3⟩ := hr; simp only [hr2, hr3, Option.getD_some]; refine (hv.sameT hS.i.x.isD QA.out).mono ?_; rintro e w' ⟨rfl, hb⟩; exact Done.mk (v := .bool true) hb)
                     | (obtain ⟨⟨v, hr2, hv⟩, hr3⟩ := hr; simp only [hr2, hr3, Option.getD_some]; refine (hv.sameT hS.i.y.isD QB.out).mono ?_; rintro e w' ⟨rfl, hb⟩; exact Done.mk (v := .bool true) hb)
                     | (obtain ⟨⟨v, hr2, hv⟩, hr3⟩ := hr; simp only [hr2, hr3, Option.getD_some]; refine (hv.sameT hS.s.isD QS.out).mono ?_; rintro e w' ⟨rfl, hb⟩; exact Done.mk (v := .bool true) hb)
                     | (obtain ⟨hr3, v, hr2, hv⟩ := hr; simp only [hr2, hr3, Option.getD_some]; refine (hS.s.isD.rsameT hv QS.out).mono ?_; rintro e w' ⟨rfl, hb⟩; exact Done.mk (v := .bool true) hb)
                     | (obtain ⟨hr3, v, hr2, hv⟩ := hr; simp only [hr2, hr3, Option.getD_some]; refine (hS.r.isD.rsameT hv QR.out).mono ?_; rintro e w' ⟨rfl, hb⟩; exact Done.mk (v := .bool true) hb)
                     | ((with_reducible refine (NSO.out _ hS).mono ?_); rintro e w' ⟨rfl, hb⟩; exact Done.mk hb)
                     | ((with_reducible refine (NRT.out _ hS).mono ?_); rintro e w' ⟨rfl, hb⟩; exact Done.mk hb)
                     | ((with_reducible refine (FI.out _ hS).mono ?_); rintro e w' ⟨rfl, hb⟩; exact Done.mk hb)
                     | exact Done.same
                )
            (refine chain_rel (IsD s) (IsD.later _) (by rfl) ?_ ?_
             · intro act wx hS hr
               simp at hr
               have ea := hS.i.x.load
               have eb := hS.i.y.load
               have es := hS.s.load
               have eo := hS.o.load
               have er := hS.r.load
               have et := hS.t.load
               all_goals go_simp
               ((with_reducible refine (RP.out _ hS).mono ?_); intro e w' hp; obtain ⟨v, rfl, ho, hb⟩ := hp; exact Done.rel hb ho.isD)
            )
            iterate 9 first
              | (refine chain_skip (by rfl) (by rfl) ?_)
              | (apply chain_want (by rfl)
                 · intro act wx hS hr
                   simp at hr
                   have ea := hS.i.x.load
                   have eb := hS.i.y.load
                   have es := hS.s.load
                   have eo := hS.o.load
                   have er := hS.r.load
                   have et := hS.t.load
                   go_simp
                   (try go_ints)
                   first
                     | (obtain ⟨⟨v, hr2, hv⟩, hr3⟩ := hr; simp only [hr2, hr3, Option.getD_some]; refine (hv.sameT hS.i.x.isD QA.out).mono ?_; rintro e w' ⟨rfl, hb⟩; exact Done.mk (v := .bool true) hb)
                     | (obtain ⟨⟨v, hr2, hv⟩, hr3⟩ := hr; simp only [hr2, hr3, Option.getD_some]; refine (hv.sameT hS.i.y.isD QB.out).mono ?_; rintro e w' ⟨rfl, hb⟩; exact Done.mk (v := .bool true) hb)
                     | (obtain ⟨⟨v, hr2, hv⟩, hr3⟩ := hr; simp only [hr2, hr3, Option.getD_some]; refine (hv.sameT hS.s.isD QS.out).mono ?_; rintro e w' ⟨rfl, hb⟩; exact Done.mk (v := .bool true) hb)
                     | (obtain ⟨hr3, v, hr2, hv⟩ := hr; simp only [hr2, hr3, Option.getD_some]; refine (hS.s.isD.rsameT hv QS.out).mono ?_; rintro e w' ⟨rfl, hb⟩; exact Done.mk (v := .bool true) hb)
                     | (obtain ⟨hr3, v, hr2, hv⟩ := hr; simp only [hr2, hr3, Option.getD_some]; refine (hS.r.isD.rsameT hv QR.out).mono ?_; rintro e w' ⟨rfl, hb⟩; exact Done.mk (v := .bool true) hb)
                     | ((with_reducible refine (NSO.out _ hS).mono ?_); rintro e w' ⟨rfl, hb⟩; exact Done.mk hb)
                     | ((with_reducible refine (NRT.out _ hS).mono ?_); rintro e w' ⟨rfl, hb⟩; exact Done.mk hb)
                     | ((with_reducible refine (FI.out _ hS).mono ?_); rintro e w' ⟨rfl, hb⟩; exact Done.mk hb)
                     | exact Done.same
                )
            (refine chain_rel (IsD r) (IsD.later _) (by rfl) ?_ ?_
             · intro act wx hS hr
               simp at hr
               have ea := hS.i.x.load
               have eb := hS.i.y.load
               have es := hS.s.load
               have eo := hS.o.load
               have er := hS.r.load
               have et := hS.t.load
               all_goals go_simp
               ((with_reducible refine (RW.out _ hS).mono ?_); intro e w' hp; obtain ⟨v, rfl, ho, hb⟩ := hp; exact Done.rel hb ho.isD)
            )
            iterate 3 first
              | (refine chain_skip (by rfl) (by rfl) ?_)
              | (apply chain_want (by rfl)
                 · intro act wx hS hr
                   simp at hr
                   have ea := hS.i.x.load
                   have eb := hS.i.y.load
                   have es := hS.s.load
                   have eo := hS.o.load
                   have er := hS.r.load
                   have et := hS.t.load
                   go_simp
                   (try go_ints)
                   first
                     | (obtain ⟨⟨v, hr2, hv⟩, hr3⟩ := hr; simp only [hr2, hr3, Option.getD_some]; refine (hv.sameT hS.i.x.isD QA.out).mono ?_; rintro e w' ⟨rfl, hb⟩; exact Done.mk (v := .bool true) hb)
                     | (obtain ⟨⟨v, hr2, hv⟩, hr3⟩ := hr; simp only [hr2, hr3, Option.getD_some]; refine (hv.sameT hS.i.y.isD QB.out).mono ?_; rintro e w' ⟨rfl, hb⟩; exact Done.mk (v := .bool true) hb)
                     | (obtain ⟨⟨v, hr2, hv⟩, hr3⟩ := hr; simp only [hr2, hr3, Option.getD_some]; refine (hv.sameT hS.s.isD QS.out).mono ?_; rintro e w' ⟨rfl, hb⟩; exact Done.mk (v := .bool true) hb)
                     | (obtain ⟨hr3, v, hr2, hv⟩ := hr; simp only [hr2, hr3, Option.getD_some]; refine (hS.s.isD.rsameT hv QS.out).mono ?_; rintro e w' ⟨rfl, hb⟩; exact Done.mk (v := .bool true) hb)
                     | (obtain ⟨hr3, v, hr2, hv⟩ := hr; simp only [hr2, hr3, Option.getD_some]; refine (hS.r.isD.rsameT hv QR.out).mono ?_; rintro e w' ⟨rfl, hb⟩; exact Done.mk (v := .bool true) hb)
                     | ((with_reducible refine (NSO.out _ hS).mono ?_); rintro e w' ⟨rfl, hb⟩; exact Done.mk hb)
                     | ((with_reducible refine (NRT.out _ hS).mono ?_); rintro e w' ⟨rfl, hb⟩; exact Done.mk hb)
                     | ((with_reducible refine (FI.out _ hS).mono ?_); rintro e w' ⟨rfl, hb⟩; exact Done.mk hb)
                     | exact Done.same
                )
            show ∀ w', _ → _
            intro wz hz
            simp [Act.put]
            case hS => exact HT.out
            have HF := Lib.hid hz.i.bel
            clear hz
            intros
            go_wp2
            go_ret
            exact ⟨by first | rfl | simp, HF.out⟩
end Go.Proofs.YtgehepiphdphjaaDoor
