/- Counting: one of the values of a span: an Or, a row. Walked. -/
import Derived.Test.YtpbbokdmoaadfaaM33
import Derived.Test.YtpbbokdmoaadfaaM25
import Derived.Test.YtpbbokdmoaadfaaM20
import Derived.RangeFuncNested
import Derived.RangeFuncBound
import Derived.RangeFuncCalls
import Derived.RangeFuncLeaves
import Derived.RangeFuncBox
import Derived.Shelf.Abstract
import Derived.WalkKit
import Derived.OwnWalkIn
import Derived.TacticsInMore
import Derived.LoopNIn
import Derived.LoopIn
namespace Go.Proofs.Ytpbbokdmoaadfaa
open Go Go.RowKit
set_option linter.unusedVariables false
set_option linter.unusedSimpArgs false
set_option maxRecDepth 100000
theorem VvS.put5 {m : Nat} {A : Option Addr} {l : List Nd} {c : Nat} {u : Value} {W V : Wd} {rb : Nat} {w0 w : World} {d0 d1 d2 d3 d4 : Value} (hr : Rdr rb A l c u W V m w0) (h : VvS m A l c u W V rb w0 #[d0, d1, d2, d3, d4] w) (c0 c1 c2 c3 c4 : Value) : VvS m A l c u W V rb w0 #[c0, c1, c2, c3, c4] (put5c w (w0.heap.size + 1) c0 c1 c2 c3 c4) := by
  have h4 := ((((h.setb hr 0 c0).setb hr 1 c1).setb hr 2 c2).setb hr 3 c3).setb hr 4 c4
  unfold put5c
  simpa using h4
theorem vok_put5 {p : Nat -> Prop} {w : World} {g : Nat} {c0 c1 c2 c3 c4 : Value} {y : VCl} (h : VOk (fun b => p b /\ b ≠ g) w y) : VOk p (put5c w g c0 c1 c2 c3 c4) y := h.turn (by rw [put5c_size]; exact Nat.le_refl _) fun b hb => put5c_other hb
set_option maxHeartbeats 16000000 in
theorem value_or {l : List Nd} {c m ba oa : Nat} {V : Wd} {i : Nat} (hF : Form l) (hi : i < l.length) (hk : (atN l i).kind = 5) (hP : PicC (some ⟨ba, oa, none⟩) l c m V i) : ValC (some ⟨ba, oa, none⟩) l c m V i := by
  intro rb u W a b r v w hr hW hab hb hrk hv
  have HV1 := Lib.hid hv
  have HCC := Lib.hid (fun (w' : World) (h : Rdr rb (some ⟨ba, oa, none⟩) l c u W V m w') => hP rb u W a b r w' h hW hab hb hrk)
  clear hv hP
  have hb1 := (Below.refl w.heap.size w).alloc (Nat.le_refl _) (.cells #[.int .i64 0, .int .u8 0, .string ⟨#[]⟩, .int .i64 0, .slice none 0 0] 32)
  have HR1 := Lib.hid (hr.later hb1)
  have HB1 := Lib.hid hb1
  have HZ1 := Lib.hid (Blk.new w #[.int .i64 0, .int .u8 0, .string ⟨#[]⟩, .int .i64 0, .slice none 0 0] 32)
  have HR0 := Lib.hid hr
  have HI := Lib.hid hi
  have HAT : Hid (∀ w', NRow w' (some ⟨ba, oa, none⟩) l -> At10 w' ba (oa + i * 10) (atN l i)) := fun w' h => h.at hi rfl
  unfold At10 at HAT
  rw [hk] at HAT
  have hil : (i : Int) < (l.length : Int) := by omega
  have hi0 : ¬ (i : Int) < 0 := by omega
  have hs1 : (w.alloc (.cells #[.int .i64 0, .int .u8 0, .string ⟨#[]⟩, .int .i64 0, .slice none 0 0] 32)).heap.size = w.heap.size + 1 := by simp
  clear hr hb1 hF hi
  go_enter Try.func32, Try.ntmps32
  go_upto_region 1 with (fail)
  generalize w.alloc (.cells #[.int .i64 0, .int .u8 0, .string ⟨#[]⟩, .int .i64 0, .slice none 0 0] 32) = w1 at *
  obtain ⟨g0, -⟩ := HAT.out _ HR1.out.rd.row
  have k0 := HR1.out.rd.blk.cell 0
  simp at k0
  have hb2 := (Below.refl w1.heap.size w1).alloc (Nat.le_refl _) (.cells #[.int .i64 5, .int .u8 0, .string ⟨#[]⟩, .int .i64 0, .slice none 0 0] 32)
  have HS2 : Hid (VvS m (some ⟨ba, oa, none⟩) l c u W V rb w #[.int .i64 5, .int .u8 0, .string ⟨#[]⟩, .int .i64 0, .slice none 0 0] (w1.alloc (.cells #[.int .i64 5, .int .u8 0, .string ⟨#[]⟩, .int .i64 0, .slice none 0 0] 32))) := by
    refine ⟨(Rk.of_below HB1.out).later HB1.out.size hb2, HR1.out.later hb2, HZ1.out.later hb2, ?_⟩
    have := Blk.new w1 #[.int .i64 5, .int .u8 0, .string ⟨#[]⟩, .int .i64 0, .slice none 0 0] 32
    rwa [hs1] at this
  clear hb2
  go_upto_region 3 with (fail)
  generalize w1.alloc (.cells #[.int .i64 5, .int .u8 0, .string ⟨#[]⟩, .int .i64 0, .slice none 0 0] 32) = w2 at *
  clear g0 k0 HR1 HB1 HZ1
  obtain ⟨g0, g1, g2, -, -, -, -, -, -, g9⟩ := HAT.out _ HS2.out.rd.rd.row
  have k0 := HS2.out.rd.rd.blk.cell 0
  simp at k0
  have k1 := HS2.out.rd.rd.blk.cell 1
  simp at k1
  have HC := Lib.hid (HCC.out w2 HS2.out.rd)
  clear HCC
  have HLT : Hid (w.heap.size + 1 < w2.heap.size) := HS2.out.b.lt
  go_wp2_with fail
  refine HC.out.mono ?_; rintro e w6 ⟨hrk5, ⟨x6, v5, hv5, hx5, rfl, hok5⟩ | ⟨hle, -⟩⟩
  · have hvv : v5 = v := by rw [HV1.out] at hv5; cases hv5; rfl
    have HX6 : Hid (x6.v = v) := hx5.trans hvv
    have HOK := Lib.hid hok5
    have HS6 := Lib.hid (HS2.out.call hrk5)
    clear hrk5 hv5 hx5 hok5 hvv HC HS2 HV1
    obtain ⟨⟨xk, xb, xt, xp, xs⟩, xB, xc⟩ := x6
    obtain ⟨w7, hw7⟩ : ∃ w7, put5c w6 (w.heap.size + 1) (.int .i64 xk) (.int .u8 ((xb.toNat : Nat) : Int)) (.string (bs xt)) (.int .i64 xp) (.slice xB xs.len xc) = w7 := ⟨_, rfl⟩
    have hsf := HS6.out.put5 HR0.out (.int .i64 xk) (.int .u8 ((xb.toNat : Nat) : Int)) (.string (bs xt)) (.int .i64 xp) (.slice xB xs.len xc)
    have hok7 := vok_put5 (c0 := .int .i64 xk) (c1 := .int .u8 ((xb.toNat : Nat) : Int)) (c2 := .string (bs xt)) (c3 := .int .i64 xp) (c4 := .slice xB xs.len xc) (HOK.out.deep HLT.out)
    rw [hw7] at hsf hok7
    have HPP := Lib.hid (val_close hsf HX6.out hok7)
    have HSF := Lib.hid hsf
    clear hsf hok7 HOK HX6
    simp only [VCl.cells, vlC]
    have e0 := HS6.out.b.cell 0
    have e1 := HS6.out.b.cell 1
    have e2 := HS6.out.b.cell 2
    have e3 := HS6.out.b.cell 3
    have e4 := HS6.out.b.cell 4
    simp at e0 e1 e2 e3 e4
    have d0 := HS6.out.b.frozen 0
    have d1 := HS6.out.b.frozen 1
    have d2 := HS6.out.b.frozen 2
    have d3 := HS6.out.b.frozen 3
    have d4 := HS6.out.b.frozen 4
    unfold put5c at hw7
    have HW7 := Lib.hid hw7
    clear hw7 HS6 g0 g1 g2 g9 k0 k1
    go_upto_region 19 with (fail)
    rw [HW7.out]
    clear HW7 e0 e1 e2 e3 e4 d0 d1 d2 d3 d4
    have z0 := HSF.out.z.cell 0
    have z1 := HSF.out.z.cell 1
    have z2 := HSF.out.z.cell 2
    have z3 := HSF.out.z.cell 3
    have z4 := HSF.out.z.cell 4
    simp at z0 z1 z2 z3 z4
    have f0 := HSF.out.z.frozen 0
    have f1 := HSF.out.z.frozen 1
    have f2 := HSF.out.z.frozen 2
    have f3 := HSF.out.z.frozen 3
    have f4 := HSF.out.z.frozen 4
    have b0 := HSF.out.b.cell 0
    have b1 := HSF.out.b.cell 1
    have b2 := HSF.out.b.cell 2
    have b3 := HSF.out.b.cell 3
    have b4 := HSF.out.b.cell 4
    simp at b0 b1 b2 b3 b4
    have HP2 := HPP.out
    unfold put5c at HP2
    have HP3 := Lib.hid HP2
    clear HP2 HPP HSF
    go_wp2
    have HP4 := HP3.out
    clear HP3
    refine bodyPost_ret ?_ rfl HP4
    · simp [results, Try.results32, go_sem]
      go_simp
      all_goals first | rfl | exact ⟨rfl, rfl⟩
  · have := (List.getElem?_eq_some_iff.1 HV1.out).1
    omega
set_option maxHeartbeats 16000000 in
theorem value_seq {l : List Nd} {c m ba oa : Nat} {V : Wd} {i : Nat} (hF : Form l) (hl : l.length <= 4096) (hi : i < l.length) (hk : (atN l i).kind = 4) (hn : V.length <= 900) (hE : ∀ j, j < i -> EndsC (some ⟨ba, oa, none⟩) l c m V j) (hRd : ∀ j, j < i -> ReadC (some ⟨ba, oa, none⟩) l c m V j) (hV : ∀ j, j < i -> ValC (some ⟨ba, oa, none⟩) l c m V j) : ValC (some ⟨ba, oa, none⟩) l c m V i := by
  intro rb u W a b r v w hr hW hab hb hrk hv
  rw [EN_k4 hF hi hk] at hv
  obtain ⟨ys, hys, hv1⟩ := map_get hv
  have hyl : ys.length = (memN l i).length := by
    have := (sqE_sound (List.mem_of_getElem? hys)).1
    rw [this, List.length_map, List.length_reverse]
  have hml := memN_len hF i hi
  have HV1 := Lib.hid hv1
  have HYL := Lib.hid hyl
  have HML : Hid ((memN l i).length <= 100000) := by unfold Hid; omega
  have HCC := Lib.hid (fun (w' : World) (h : Rdr rb (some ⟨ba, oa, none⟩) l c u W V m w') => crow_any hF hl hi hk hE hRd hV rb u W a b r ys w' h hW hn hab hb hrk hys)
  have HNE := Lib.hid (nest_any (c := c) (m := m) (ba := ba) (oa := oa) hF i hi)
  clear hv hys hv1 hE hRd hV hyl hml
  have hb1 := (Below.refl w.heap.size w).alloc (Nat.le_refl _) (.cells #[.int .i64 0, .int .u8 0, .string ⟨#[]⟩, .int .i64 0, .slice none 0 0] 32)
  have HR1 := Lib.hid (hr.later hb1)
  have HB1 := Lib.hid hb1
  have HZ1 := Lib.hid (Blk.new w #[.int .i64 0, .int .u8 0, .string ⟨#[]⟩, .int .i64 0, .slice none 0 0] 32)
  have HR0 := Lib.hid hr
  have HI := Lib.hid hi
  have HAT : Hid (∀ w', NRow w' (some ⟨ba, oa, none⟩) l -> At10 w' ba (oa + i * 10) (atN l i)) := fun w' h => h.at hi rfl
  unfold At10 at HAT
  rw [hk] at HAT
  have hil : (i : Int) < (l.length : Int) := by omega
  have hi0 : ¬ (i : Int) < 0 := by omega
  have hs1 : (w.alloc (.cells #[.int .i64 0, .int .u8 0, .string ⟨#[]⟩, .int .i64 0, .slice none 0 0] 32)).heap.size = w.heap.size + 1 := by simp
  clear hr hb1 hF hi
  go_enter Try.func32, Try.ntmps32
  go_upto_region 1 with (fail)
  generalize w.alloc (.cells #[.int .i64 0, .int .u8 0, .string ⟨#[]⟩, .int .i64 0, .slice none 0 0] 32) = w1 at *
  obtain ⟨g0, -⟩ := HAT.out _ HR1.out.rd.row
  have k0 := HR1.out.rd.blk.cell 0
  simp at k0
  have hb2 := (Below.refl w1.heap.size w1).alloc (Nat.le_refl _) (.cells #[.int .i64 4, .int .u8 0, .string ⟨#[]⟩, .int .i64 0, .slice none 0 0] 32)
  have HS2 : Hid (VvS m (some ⟨ba, oa, none⟩) l c u W V rb w #[.int .i64 4, .int .u8 0, .string ⟨#[]⟩, .int .i64 0, .slice none 0 0] (w1.alloc (.cells #[.int .i64 4, .int .u8 0, .string ⟨#[]⟩, .int .i64 0, .slice none 0 0] 32))) := by
    refine ⟨(Rk.of_below HB1.out).later HB1.out.size hb2, HR1.out.later hb2, HZ1.out.later hb2, ?_⟩
    have := Blk.new w1 #[.int .i64 4, .int .u8 0, .string ⟨#[]⟩, .int .i64 0, .slice none 0 0] 32
    rwa [hs1] at this
  clear hb2
  go_upto_region 3 with (fail)
  generalize w1.alloc (.cells #[.int .i64 4, .int .u8 0, .string ⟨#[]⟩, .int .i64 0, .slice none 0 0] 32) = w2 at *
  clear g0 k0 HR1 HB1 HZ1
  obtain ⟨g0, g1, g2, -, -, -, -, -, -, g9⟩ := HAT.out _ HS2.out.rd.rd.row
  have k0 := HS2.out.rd.rd.blk.cell 0
  simp at k0
  have k1 := HS2.out.rd.rd.blk.cell 1
  simp at k1
  have HC := Lib.hid (HCC.out w2 HS2.out.rd)
  clear HCC
  have HLT : Hid (w.heap.size + 1 < w2.heap.size) := HS2.out.b.lt
  go_wp2_with fail
  refine HC.out.mono ?_; rintro e w5 ⟨v5, rfl, hnw5, hrk5⟩
  obtain ⟨A5, c5, L, rfl, hc5, hL, hck, hcl⟩ := hnw5.rows
  have hLl : L.length = (memN l i).length := by rw [<- HYL.out, <- hL, List.length_map]
  have HS5 := Lib.hid (HS2.out.call hrk5)
  have HN5 := Lib.hid (HNE.out rb u W (fun b => w2.heap.size <= b) A5 L c5 w5 HS5.out.rd.rd (fun b hb => Nat.le_trans hrk5.size hb) hcl hck (by omega) hc5 (by have := HML.out; omega))
  have HNV : Hid (nestN l i ((L.map (·.v)).take (memN l i).length) = v) := by
    unfold Hid; rw [hL, <- HYL.out, List.take_length]; exact HV1.out
  clear hnw5 hrk5 hc5 hL hck hcl hLl HC HS2 HV1 HYL HML HNE
  go_wp2_with fail
  refine HN5.out.mono ?_; rintro e w6 ⟨x6, A6, c6, rfl, hx5, hok5, -, -, -, hbel⟩
  have HX6 : Hid (x6.v = v) := hx5.trans HNV.out
  have HOK := Lib.hid hok5
  have HS6 := Lib.hid (HS5.out.later hbel)
  clear hbel hx5 hok5 HN5 HNV HS5
  generalize (L.drop (memN l i).length).length = ld at *
  obtain ⟨⟨xk, xb, xt, xp, xs⟩, xB, xc⟩ := x6
  obtain ⟨w7, hw7⟩ : ∃ w7, put5c w6 (w.heap.size + 1) (.int .i64 xk) (.int .u8 ((xb.toNat : Nat) : Int)) (.string (bs xt)) (.int .i64 xp) (.slice xB xs.len xc) = w7 := ⟨_, rfl⟩
  have hsf := HS6.out.put5 HR0.out (.int .i64 xk) (.int .u8 ((xb.toNat : Nat) : Int)) (.string (bs xt)) (.int .i64 xp) (.slice xB xs.len xc)
  have hok7 := vok_put5 (c0 := .int .i64 xk) (c1 := .int .u8 ((xb.toNat : Nat) : Int)) (c2 := .string (bs xt)) (c3 := .int .i64 xp) (c4 := .slice xB xs.len xc) (HOK.out.deep HLT.out)
  rw [hw7] at hsf hok7
  have HPP := Lib.hid (val_close hsf HX6.out hok7)
  have HSF := Lib.hid hsf
  clear hsf hok7 HOK HX6
  simp only [VCl.cells, vlC]
  have e0 := HS6.out.b.cell 0
  have e1 := HS6.out.b.cell 1
  have e2 := HS6.out.b.cell 2
  have e3 := HS6.out.b.cell 3
  have e4 := HS6.out.b.cell 4
  simp at e0 e1 e2 e3 e4
  have d0 := HS6.out.b.frozen 0
  have d1 := HS6.out.b.frozen 1
  have d2 := HS6.out.b.frozen 2
  have d3 := HS6.out.b.frozen 3
  have d4 := HS6.out.b.frozen 4
  unfold put5c at hw7
  have HW7 := Lib.hid hw7
  clear hw7 HS6 g0 g1 g2 g9 k0 k1
  go_upto_region 19 with (fail)
  rw [HW7.out]
  clear HW7 e0 e1 e2 e3 e4 d0 d1 d2 d3 d4
  have z0 := HSF.out.z.cell 0
  have z1 := HSF.out.z.cell 1
  have z2 := HSF.out.z.cell 2
  have z3 := HSF.out.z.cell 3
  have z4 := HSF.out.z.cell 4
  simp at z0 z1 z2 z3 z4
  have f0 := HSF.out.z.frozen 0
  have f1 := HSF.out.z.frozen 1
  have f2 := HSF.out.z.frozen 2
  have f3 := HSF.out.z.frozen 3
  have f4 := HSF.out.z.frozen 4
  have b0 := HSF.out.b.cell 0
  have b1 := HSF.out.b.cell 1
  have b2 := HSF.out.b.cell 2
  have b3 := HSF.out.b.cell 3
  have b4 := HSF.out.b.cell 4
  simp at b0 b1 b2 b3 b4
  have HP2 := HPP.out
  unfold put5c at HP2
  have HP3 := Lib.hid HP2
  clear HP2 HPP HSF
  go_wp2
  have HP4 := HP3.out
  clear HP3
  refine bodyPost_ret ?_ rfl HP4
  · simp [results, Try.results32, go_sem]
    go_simp
    all_goals first | rfl | exact ⟨rfl, rfl⟩
theorem frame_math {l : List Nd} {i : Nat} {K : Int} {h : Nat} (hF : Form l) (hi : i < l.length) (hk : (atN l i).kind = K) (hK : K = 8 /\ h = 1 \/ K = 9 /\ h = 2) {W : Wd} {a b r : Nat} {v : Vl} (hab : a <= b) (hb : b <= W.length) (hv : (EN l i (sgW W a b))[r]? = some v) :
    a + h <= b /\ ∃ x, (EN l (atN l i).a.toNat (sgW (W.take b) (a + h) b))[r]? = some x /\ (⟨K, 0, [], 0, Vs.of [x]⟩ : Vl) = v := by
  rcases hK with ⟨rfl, rfl⟩ | ⟨rfl, rfl⟩
  · rw [EN_k8 hF hi hk] at hv
    split at hv
    case isTrue hc =>
      have h1 := hc.1
      rw [sgW_len hb] at h1
      obtain ⟨x, h2, h3⟩ := map_get hv
      rw [sgW_drop] at h2
      exact ⟨by omega, x, by rw [sgW_of_take (Nat.le_refl _)]; exact h2, h3⟩
    case isFalse hc => simp at hv
  · rw [EN_k9 hF hi hk] at hv
    split at hv
    case isTrue hc =>
      have h1 := hc.1
      rw [sgW_len hb] at h1
      obtain ⟨x, h2, h3⟩ := map_get hv
      rw [sgW_drop] at h2
      exact ⟨by omega, x, by rw [sgW_of_take (Nat.le_refl _)]; exact h2, h3⟩
    case isFalse hc => simp at hv
def UtV (A : Option Addr) (l : List Nd) (c : Nat) (W V : Wd) (m : Nat) (v : Value) (w : World) : Prop := ∃ rb u, v = .pointer (some ⟨rb, 0, none⟩) /\ Rdr rb A l c u W V m w
theorem UtV.grow (A : Option Addr) (l : List Nd) (c : Nat) (W V : Wd) (m : Nat) : ∀ v w w', UtV A l c W V m v w -> RkR m l V w w' -> UtV A l c W V m v w' := fun v w w' ⟨rb, u, h1, h2⟩ hb => ⟨rb, u, h1, h2.rk hb⟩
def VaV (H : Nat) (A : Option Addr) (l : List Nd) (c : Nat) (u : Value) (W V : Wd) (m rb : Nat) (vx : Vl) (v : Value) (w : World) : Prop := ∃ y : VCl, v = .agg y.cells /\ y.v = vx /\ VOk (fun b => H + 2 <= b) w y /\ H + 2 <= w.heap.size /\ Rdr rb A l c u W V m w
theorem VaV.grow (H : Nat) (A : Option Addr) (l : List Nd) (c : Nat) (u : Value) (W V : Wd) (m rb : Nat) (vx : Vl) : ∀ v w w', VaV H A l c u W V m rb vx v w -> RkR m l V w w' -> VaV H A l c u W V m rb vx v w' := fun v w w' ⟨y, h1, h2, h3, h4, h5⟩ hb => ⟨y, h1, h2, ⟨h3.1, h3.2.kc (Rk.kc hb ⟨_, h5.kept⟩)⟩, Nat.le_trans h4 hb.size, h5.rk hb⟩
def KdV (H : Nat) (A : Option Addr) (l : List Nd) (c : Nat) (u : Value) (W V : Wd) (m rb : Nat) (k : Int) (vx : Vl) (v : Value) (w : World) : Prop := ∃ g, v = .slice (some ⟨g, 0, none⟩) 1 1 /\ VOk (fun b => H + 2 <= b) w ⟨⟨k, 0, [], 0, Vs.of [vx]⟩, some ⟨g, 0, none⟩, 1⟩ /\ Rdr rb A l c u W V m w
theorem KdV.grow (H : Nat) (A : Option Addr) (l : List Nd) (c : Nat) (u : Value) (W V : Wd) (m rb : Nat) (k : Int) (vx : Vl) : ∀ v w w', KdV H A l c u W V m rb k vx v w -> RkR m l V w w' -> KdV H A l c u W V m rb k vx v w' := fun v w w' ⟨g, h1, h3, h5⟩ hb => ⟨g, h1, ⟨h3.1, h3.2.kc (Rk.kc hb ⟨_, h5.kept⟩)⟩, h5.rk hb⟩
theorem VaV.kid {H : Nat} {A : Option Addr} {l : List Nd} {c : Nat} {u : Value} {W V : Wd} {m rb : Nat} {k : Int} {vx : Vl} {w : World} {y : VCl} (h2 : y.v = vx) (h3 : VOk (fun b => H + 2 <= b) w y) (h4 : H + 2 <= w.heap.size) (h5 : Rdr rb A l c u W V m w) : KdV H A l c u W V m rb k vx (.slice (some ⟨w.heap.size, 0, none⟩) 1 1) (w.alloc (.cells y.cells 32)) := by
  subst h2
  have hb := (Below.refl w.heap.size w).alloc (Nat.le_refl _) (.cells y.cells 32)
  exact ⟨_, rfl, one_kid hb h3 (Blk.new w _ _) h4, h5.later hb⟩
structure FvS (m : Nat) (A : Option Addr) (l : List Nd) (c : Nat) (u : Value) (W V : Wd) (rb : Nat) (w0 : World) (bv : Array Value) (w : World) : Prop where
  s : VvS m A l c u W V rb w0 bv w
  low : w0.heap.size + 2 <= w.heap.size
theorem FvS.grow {m : Nat} {A : Option Addr} {l : List Nd} {c : Nat} {u : Value} {W V : Wd} {rb : Nat} {w0 w w' : World} {bv : Array Value} (h : FvS m A l c u W V rb w0 bv w) (hr : RkR m l V w w') : FvS m A l c u W V rb w0 bv w' := ⟨h.s.call hr, Nat.le_trans h.low hr.size⟩
set_option maxHeartbeats 16000000 in
theorem value_frame {l : List Nd} {c m ba oa : Nat} {V : Wd} {i : Nat} (hF : Form l) (hi : i < l.length) (hk : (atN l i).kind = 8) (hn : V.length <= 900) (hV : ValC (some ⟨ba, oa, none⟩) l c m V (atN l i).a.toNat) : ValC (some ⟨ba, oa, none⟩) l c m V i := by
  intro rb u W a b r v w hr hW hab hb hrk hv
  obtain ⟨hah, vx, hvx, hv1⟩ := frame_math (h := 1) hF hi hk (by omega) hab hb hv
  have haz : (((atN l i).a.toNat : Nat) : Int) = (atN l i).a := by
    have hcs := (hF.2.1 i hi).cs rfl
    cases hcs with
    | leaf h1 hf => unfold leafK at h1; omega
    | one h1 hi0 ha hb h7 hr hcl hf => omega
    | two h1 hi0 hb ha hf0 hl hcl hf => omega
  have hWn : W.length <= 900 := by obtain ⟨t, rfl⟩ := hW; simp at hn; omega
  have HV1 := Lib.hid hv1
  have hWb : W.take b <+: V := (List.take_prefix b W).trans hW
  have hbl : b <= (W.take b).length := by rw [List.length_take]; omega
  have HCC := Lib.hid (fun (rb' : Nat) (u' : Value) (w' : World) (h : Rdr rb' (some ⟨ba, oa, none⟩) l c u' (W.take b) V m w') => hV rb' u' (W.take b) (a + 1) b r vx w' h hWb hah hbl hrk hvx)
  have HUT := Lib.hid (fun (w' : World) (h : Rdr rb (some ⟨ba, oa, none⟩) l c u W V m w') => cupTo_any rb (some ⟨ba, oa, none⟩) l c u W m b w' h.rd hb)
  have HHD : Hid (∀ w', Calls Try.prog 52 #[.int .i64 8] w' (Pure w' (.int .i64 1))) := fun w' => chead_any 8 w'
  clear hv hv1 hvx hV hWb hbl
  obtain ⟨na, hna⟩ : ∃ na, (atN l i).a.toNat = na := ⟨_, rfl⟩
  rw [hna] at haz HCC
  have HNA := Lib.hid haz
  clear haz hna
  have hb1 := (Below.refl w.heap.size w).alloc (Nat.le_refl _) (.cells #[.int .i64 0, .int .u8 0, .string ⟨#[]⟩, .int .i64 0, .slice none 0 0] 32)
  have HR1 := Lib.hid (hr.later hb1)
  have HB1 := Lib.hid hb1
  have HZ1 := Lib.hid (Blk.new w #[.int .i64 0, .int .u8 0, .string ⟨#[]⟩, .int .i64 0, .slice none 0 0] 32)
  have HR0 := Lib.hid hr
  have HI := Lib.hid hi
  have HAT : Hid (∀ w', NRow w' (some ⟨ba, oa, none⟩) l -> At10 w' ba (oa + i * 10) (atN l i)) := fun w' h => h.at hi rfl
  unfold At10 at HAT
  rw [hk] at HAT
  have hil : (i : Int) < (l.length : Int) := by omega
  have hi0 : ¬ (i : Int) < 0 := by omega
  have hs1 : (w.alloc (.cells #[.int .i64 0, .int .u8 0, .string ⟨#[]⟩, .int .i64 0, .slice none 0 0] 32)).heap.size = w.heap.size + 1 := by simp
  clear hr hb1 hF hi
  go_enter Try.func32, Try.ntmps32
  go_upto_region 1 with (fail)
  generalize w.alloc (.cells #[.int .i64 0, .int .u8 0, .string ⟨#[]⟩, .int .i64 0, .slice none 0 0] 32) = w1 at *
  obtain ⟨g0, -⟩ := HAT.out _ HR1.out.rd.row
  have k0 := HR1.out.rd.blk.cell 0
  simp at k0
  have hb2 := (Below.refl w1.heap.size w1).alloc (Nat.le_refl _) (.cells #[.int .i64 8, .int .u8 0, .string ⟨#[]⟩, .int .i64 0, .slice none 0 0] 32)
  have HS2 : Hid (VvS m (some ⟨ba, oa, none⟩) l c u W V rb w #[.int .i64 8, .int .u8 0, .string ⟨#[]⟩, .int .i64 0, .slice none 0 0] (w1.alloc (.cells #[.int .i64 8, .int .u8 0, .string ⟨#[]⟩, .int .i64 0, .slice none 0 0] 32))) := by
    refine ⟨(Rk.of_below HB1.out).later HB1.out.size hb2, HR1.out.later hb2, HZ1.out.later hb2, ?_⟩
    have := Blk.new w1 #[.int .i64 8, .int .u8 0, .string ⟨#[]⟩, .int .i64 0, .slice none 0 0] 32
    rwa [hs1] at this
  clear hb2
  go_upto_region 3 with (fail)
  generalize w1.alloc (.cells #[.int .i64 8, .int .u8 0, .string ⟨#[]⟩, .int .i64 0, .slice none 0 0] 32) = w2 at *
  clear g0 k0 HR1 HB1 HZ1
  obtain ⟨g0, g1, g2, -, -, -, -, -, -, g9⟩ := HAT.out _ HS2.out.rd.rd.row
  have k0 := HS2.out.rd.rd.blk.cell 0
  simp at k0
  have k1 := HS2.out.rd.rd.blk.cell 1
  simp at k1
  have HR : Hid (∀ w w', Below w.heap.size w w' -> RkR m l V w w') := fun w w' h => .of_below h
  have HLT : Hid (w.heap.size + 2 <= w2.heap.size) := HS2.out.b.lt
  go_upto_region 18 with (fail)
  clear g0 g1 g2 g9 k0 k1
  refine G.wp_region_stable_last (R := (RkR m l V)) HR.out (S := (FvS m (some ⟨ba, oa, none⟩) l c u W V rb w #[.int .i64 8, .int .u8 0, .string ⟨#[]⟩, .int .i64 0, .slice none 0 0])) (hSt := fun _ _ h hr => h.grow hr) (plan := [[(0, none)], [(3, none)], [(92, some 0), (93, some 1)], [(11, none)], [(95, some 3)], [(96, some 4)], [(97, some 5)], [(2, none)], [(11, none)], [(100, some 8)], [(101, some 9)], [(102, some 10)], [(103, some 11)], [(99, some 7), (104, some 12)], [(3, none)], [(4, none)], [(94, some 2), (98, some 6), (105, some 13), (106, some 14), (107, some 15)], [(108, some 16)], [(12, none)]]) rfl (by kernel_rfl) (by kernel_rfl) (by kernel_rfl) (by kernel_rfl) ?hS ?_
  rotate_left
  simp only [List.dropLast]
  iterate 2 first
    | (refine G.chain_skip (by rfl) (by rfl) ?_)
    | (apply G.chain_want (by rfl)
       · intro act wx hS hr
         simp at hr
         obtain ⟨g0, g1, -⟩ := HAT.out _ hS.s.rd.rd.row
         rw [<- HNA.out] at g1
         go_simp
         (try go_ints)
         first
           | (refine (HHD.out _).mono ?_; rintro e w5 ⟨rfl, rfl⟩; exact G.Done.same HR.out)
           | exact G.Done.same HR.out
      )
  (refine G.chain_rel (UtV (some ⟨ba, oa, none⟩) l c (W.take b) V m) (UtV.grow (some ⟨ba, oa, none⟩) l c (W.take b) V m) (by rfl) ?_ ?_
   · intro act wx hS hr
     simp at hr
     obtain ⟨g0, g1, -⟩ := HAT.out _ hS.s.rd.rd.row
     rw [<- HNA.out] at g1
     all_goals go_simp
     (refine (HUT.out wx hS.s.rd).mono ?_); rintro e w5 ⟨rb5, u5, rfl, h5, hb5, -⟩; exact G.Done.rel (HR.out _ _ hb5) ⟨rb5, u5, rfl, ⟨h5, (hS.s.rd.later hb5).kept⟩⟩
  )
  iterate 13 first
    | (refine G.chain_skip (by rfl) (by rfl) ?_)
    | (apply G.chain_want (by rfl)
       · intro act wx hS hr
         simp at hr
         obtain ⟨g0, g1, -⟩ := HAT.out _ hS.s.rd.rd.row
         rw [<- HNA.out] at g1
         go_simp
         (try go_ints)
         first
           | (refine (HHD.out _).mono ?_; rintro e w5 ⟨rfl, rfl⟩; exact G.Done.same HR.out)
           | exact G.Done.same HR.out
      )
  (refine G.chain_rel (VaV w.heap.size (some ⟨ba, oa, none⟩) l c u W V m rb vx) (VaV.grow w.heap.size (some ⟨ba, oa, none⟩) l c u W V m rb vx) (by rfl) ?_ ?_
   · intro act wx hS hr
     simp at hr
     obtain ⟨g0, g1, -⟩ := HAT.out _ hS.s.rd.rd.row
     rw [<- HNA.out] at g1
     obtain ⟨⟨v, hr2, rb5, u5, rfl, hrd5⟩, hr3, hr4, hr5, hr6⟩ := hr
     all_goals go_simp
     (try simp only [hr2, hr3, hr4, hr5, hr6, Option.getD_some]); (try go_simp); (refine (HCC.out rb5 u5 wx hrd5).mono ?_); rintro e w5 ⟨y, rfl, hyv, hok, hrk5⟩; exact G.Done.rel hrk5 ⟨y, rfl, hyv, ⟨hok.1, hok.2.mono fun b _ hb => Nat.le_trans hS.low hb⟩, Nat.le_trans hS.low hrk5.size, hS.s.rd.rk hrk5⟩
  )
  (refine G.chain_rel (KdV w.heap.size (some ⟨ba, oa, none⟩) l c u W V m rb 8 vx) (KdV.grow w.heap.size (some ⟨ba, oa, none⟩) l c u W V m rb 8 vx) (by rfl) ?_ ?_
   · intro act wx hS hr
     simp at hr
     obtain ⟨g0, g1, -⟩ := HAT.out _ hS.s.rd.rd.row
     rw [<- HNA.out] at g1
     obtain ⟨v, hr2, y, rfl, hyv, hok, hlo, hrd5⟩ := hr
     obtain ⟨⟨yk, yb, yt, yp, ys⟩, yB, yc⟩ := y
     simp only [VCl.cells, vlC] at hr2
     all_goals go_simp
     (try simp only [hr2, Option.getD_some]); (try go_simp); exact G.Done.rel (HR.out _ _ ((Below.refl _ _).alloc (Nat.le_refl _) _)) (VaV.kid hyv hok hlo hrd5)
  )
  iterate 1 first
    | (refine G.chain_skip (by rfl) (by rfl) ?_)
    | (apply G.chain_want (by rfl)
       · intro act wx hS hr
         simp at hr
         obtain ⟨g0, g1, -⟩ := HAT.out _ hS.s.rd.rd.row
         rw [<- HNA.out] at g1
         go_simp
         (try go_ints)
         first
           | (refine (HHD.out _).mono ?_; rintro e w5 ⟨rfl, rfl⟩; exact G.Done.same HR.out)
           | exact G.Done.same HR.out
      )
  show ∀ w', _ -> _
  intro w9 hw9
  simp [Act.put]
  case hS => exact ⟨HS2.out, HLT.out⟩
  intro v2 _ v16 _ v17 hv17
  obtain ⟨g17, rfl, hok17, -⟩ := hv17
  have HS5 := Lib.hid hw9.s
  have HOK := Lib.hid (fun x => vok_set (p := fun b => w.heap.size <= b /\ b ≠ w.heap.size) (g := w.heap.size + 1) (j := 4) (x := x) (VOk.deep (H2 := w.heap.size + 2) hok17 (by omega)))
  clear hw9 hok17 HS2 HUT HCC HHD
  have e1 := HS5.out.b.cell 4
  have e2 := HS5.out.b.frozen 4
  simp at e1
  have HSF : Hid (VvS m (some ⟨ba, oa, none⟩) l c u W V rb w #[.int .i64 8, .int .u8 0, .string ⟨#[]⟩, .int .i64 0, .slice (some ⟨g17, 0, none⟩) 1 1] (w9.setCell ⟨w.heap.size + 1, 4, none⟩ (.slice (some ⟨g17, 0, none⟩) 1 1))) := by
    have := HS5.out.setb HR0.out 4 (.slice (some ⟨g17, 0, none⟩) 1 1)
    unfold Hid; simpa using this
  have HPP := Lib.hid (val_close (xk := 8) (xb := 0) (xt := []) (xp := 0) (xs := Vs.of [vx]) (xB := some ⟨g17, 0, none⟩) (xc := 1) HSF.out HV1.out (HOK.out _))
  clear HS5 HOK HV1 HR
  go_upto_region 19 with (fail)
  generalize w9.setCell ⟨w.heap.size + 1, 4, none⟩ (.slice (some ⟨g17, 0, none⟩) 1 1) = w6 at *
  clear e1 e2
  have z0 := HSF.out.z.cell 0
  have z1 := HSF.out.z.cell 1
  have z2 := HSF.out.z.cell 2
  have z3 := HSF.out.z.cell 3
  have z4 := HSF.out.z.cell 4
  simp at z0 z1 z2 z3 z4
  have f0 := HSF.out.z.frozen 0
  have f1 := HSF.out.z.frozen 1
  have f2 := HSF.out.z.frozen 2
  have f3 := HSF.out.z.frozen 3
  have f4 := HSF.out.z.frozen 4
  have b0 := HSF.out.b.cell 0
  have b1 := HSF.out.b.cell 1
  have b2 := HSF.out.b.cell 2
  have b3 := HSF.out.b.cell 3
  have b4 := HSF.out.b.cell 4
  simp at b0 b1 b2 b3 b4
  have HP2 := HPP.out
  unfold put5c at HP2
  have HP3 := Lib.hid HP2
  clear HP2 HPP HSF
  go_wp2
  have HP4 := HP3.out
  clear HP3
  refine bodyPost_ret ?_ rfl HP4
  · simp [results, Try.results32, go_sem]
    go_simp
    all_goals first | rfl | exact ⟨rfl, rfl⟩
set_option maxHeartbeats 16000000 in
theorem value_wide {l : List Nd} {c m ba oa : Nat} {V : Wd} {i : Nat} (hF : Form l) (hi : i < l.length) (hk : (atN l i).kind = 9) (hn : V.length <= 900) (hV : ValC (some ⟨ba, oa, none⟩) l c m V (atN l i).a.toNat) : ValC (some ⟨ba, oa, none⟩) l c m V i := by
  intro rb u W a b r v w hr hW hab hb hrk hv
  obtain ⟨hah, vx, hvx, hv1⟩ := frame_math (h := 2) hF hi hk (by omega) hab hb hv
  have haz : (((atN l i).a.toNat : Nat) : Int) = (atN l i).a := by
    have hcs := (hF.2.1 i hi).cs rfl
    cases hcs with
    | leaf h1 hf => unfold leafK at h1; omega
    | one h1 hi0 ha hb h7 hr hcl hf => omega
    | two h1 hi0 hb ha hf0 hl hcl hf => omega
  have hWn : W.length <= 900 := by obtain ⟨t, rfl⟩ := hW; simp at hn; omega
  have HV1 := Lib.hid hv1
  have hWb : W.take b <+: V := (List.take_prefix b W).trans hW
  have hbl : b <= (W.take b).length := by rw [List.length_take]; omega
  have HCC := Lib.hid (fun (rb' : Nat) (u' : Value) (w' : World) (h : Rdr rb' (some ⟨ba, oa, none⟩) l c u' (W.take b) V m w') => hV rb' u' (W.take b) (a + 2) b r vx w' h hWb hah hbl hrk hvx)
  have HUT := Lib.hid (fun (w' : World) (h : Rdr rb (some ⟨ba, oa, none⟩) l c u W V m w') => cupTo_any rb (some ⟨ba, oa, none⟩) l c u W m b w' h.rd hb)
  have HHD : Hid (∀ w', Calls Try.prog 52 #[.int .i64 9] w' (Pure w' (.int .i64 2))) := fun w' => chead_any 9 w'
  clear hv hv1 hvx hV hWb hbl
  obtain ⟨na, hna⟩ : ∃ na, (atN l i).a.toNat = na := ⟨_, rfl⟩
  rw [hna] at haz HCC
  have HNA := Lib.hid haz
  clear haz hna
  have hb1 := (Below.refl w.heap.size w).alloc (Nat.le_refl _) (.cells #[.int .i64 0, .int .u8 0, .string ⟨#[]⟩, .int .i64 0, .slice none 0 0] 32)
  have HR1 := Lib.hid (hr.later hb1)
  have HB1 := Lib.hid hb1
  have HZ1 := Lib.hid (Blk.new w #[.int .i64 0, .int .u8 0, .string ⟨#[]⟩, .int .i64 0, .slice none 0 0] 32)
  have HR0 := Lib.hid hr
  have HI := Lib.hid hi
  have HAT : Hid (∀ w', NRow w' (some ⟨ba, oa, none⟩) l -> At10 w' ba (oa + i * 10) (atN l i)) := fun w' h => h.at hi rfl
  unfold At10 at HAT
  rw [hk] at HAT
  have hil : (i : Int) < (l.length : Int) := by omega
  have hi0 : ¬ (i : Int) < 0 := by omega
  have hs1 : (w.alloc (.cells #[.int .i64 0, .int .u8 0, .string ⟨#[]⟩, .int .i64 0, .slice none 0 0] 32)).heap.size = w.heap.size + 1 := by simp
  clear hr hb1 hF hi
  go_enter Try.func32, Try.ntmps32
  go_upto_region 1 with (fail)
  generalize w.alloc (.cells #[.int .i64 0, .int .u8 0, .string ⟨#[]⟩, .int .i64 0, .slice none 0 0] 32) = w1 at *
  obtain ⟨g0, -⟩ := HAT.out _ HR1.out.rd.row
  have k0 := HR1.out.rd.blk.cell 0
  simp at k0
  have hb2 := (Below.refl w1.heap.size w1).alloc (Nat.le_refl _) (.cells #[.int .i64 9, .int .u8 0, .string ⟨#[]⟩, .int .i64 0, .slice none 0 0] 32)
  have HS2 : Hid (VvS m (some ⟨ba, oa, none⟩) l c u W V rb w #[.int .i64 9, .int .u8 0, .string ⟨#[]⟩, .int .i64 0, .slice none 0 0] (w1.alloc (.cells #[.int .i64 9, .int .u8 0, .string ⟨#[]⟩, .int .i64 0, .slice none 0 0] 32))) := by
    refine ⟨(Rk.of_below HB1.out).later HB1.out.size hb2, HR1.out.later hb2, HZ1.out.later hb2, ?_⟩
    have := Blk.new w1 #[.int .i64 9, .int .u8 0, .string ⟨#[]⟩, .int .i64 0, .slice none 0 0] 32
    rwa [hs1] at this
  clear hb2
  go_upto_region 3 with (fail)
  generalize w1.alloc (.cells #[.int .i64 9, .int .u8 0, .string ⟨#[]⟩, .int .i64 0, .slice none 0 0] 32) = w2 at *
  clear g0 k0 HR1 HB1 HZ1
  obtain ⟨g0, g1, g2, -, -, -, -, -, -, g9⟩ := HAT.out _ HS2.out.rd.rd.row
  have k0 := HS2.out.rd.rd.blk.cell 0
  simp at k0
  have k1 := HS2.out.rd.rd.blk.cell 1
  simp at k1
  have HR : Hid (∀ w w', Below w.heap.size w w' -> RkR m l V w w') := fun w w' h => .of_below h
  have HLT : Hid (w.heap.size + 2 <= w2.heap.size) := HS2.out.b.lt
  go_upto_region 18 with (fail)
  clear g0 g1 g2 g9 k0 k1
  refine G.wp_region_stable_last (R := (RkR m l V)) HR.out (S := (FvS m (some ⟨ba, oa, none⟩) l c u W V rb w #[.int .i64 9, .int .u8 0, .string ⟨#[]⟩, .int .i64 0, .slice none 0 0])) (hSt := fun _ _ h hr => h.grow hr) (plan := [[(0, none)], [(3, none)], [(92, some 0), (93, some 1)], [(11, none)], [(95, some 3)], [(96, some 4)], [(97, some 5)], [(2, none)], [(11, none)], [(100, some 8)], [(101, some 9)], [(102, some 10)], [(103, some 11)], [(99, some 7), (104, some 12)], [(3, none)], [(4, none)], [(94, some 2), (98, some 6), (105, some 13), (106, some 14), (107, some 15)], [(108, some 16)], [(12, none)]]) rfl (by kernel_rfl) (by kernel_rfl) (by kernel_rfl) (by kernel_rfl) ?hS ?_
  rotate_left
  simp only [List.dropLast]
  iterate 2 first
    | (refine G.chain_skip (by rfl) (by rfl) ?_)
    | (apply G.chain_want (by rfl)
       · intro act wx hS hr
         simp at hr
         obtain ⟨g0, g1, -⟩ := HAT.out _ hS.s.rd.rd.row
         rw [<- HNA.out] at g1
         go_simp
         (try go_ints)
         first
           | (refine (HHD.out _).mono ?_; rintro e w5 ⟨rfl, rfl⟩; exact G.Done.same HR.out)
           | exact G.Done.same HR.out
      )
  (refine G.chain_rel (UtV (some ⟨ba, oa, none⟩) l c (W.take b) V m) (UtV.grow (some ⟨ba, oa, none⟩) l c (W.take b) V m) (by rfl) ?_ ?_
   · intro act wx hS hr
     simp at hr
     obtain ⟨g0, g1, -⟩ := HAT.out _ hS.s.rd.rd.row
     rw [<- HNA.out] at g1
     all_goals go_simp
     (refine (HUT.out wx hS.s.rd).mono ?_); rintro e w5 ⟨rb5, u5, rfl, h5, hb5, -⟩; exact G.Done.rel (HR.out _ _ hb5) ⟨rb5, u5, rfl, ⟨h5, (hS.s.rd.later hb5).kept⟩⟩
  )
  iterate 13 first
    | (refine G.chain_skip (by rfl) (by rfl) ?_)
    | (apply G.chain_want (by rfl)
       · intro act wx hS hr
         simp at hr
         obtain ⟨g0, g1, -⟩ := HAT.out _ hS.s.rd.rd.row
         rw [<- HNA.out] at g1
         go_simp
         (try go_ints)
         first
           | (refine (HHD.out _).mono ?_; rintro e w5 ⟨rfl, rfl⟩; exact G.Done.same HR.out)
           | exact G.Done.same HR.out
      )
  (refine G.chain_rel (VaV w.heap.size (some ⟨ba, oa, none⟩) l c u W V m rb vx) (VaV.grow w.heap.size (some ⟨ba, oa, none⟩) l c u W V m rb vx) (by rfl) ?_ ?_
   · intro act wx hS hr
     simp at hr
     obtain ⟨g0, g1, -⟩ := HAT.out _ hS.s.rd.rd.row
     rw [<- HNA.out] at g1
     obtain ⟨⟨v, hr2, rb5, u5, rfl, hrd5⟩, hr3, hr4, hr5, hr6⟩ := hr
     all_goals go_simp
     (try simp only [hr2, hr3, hr4, hr5, hr6, Option.getD_some]); (try go_simp); (refine (HCC.out rb5 u5 wx hrd5).mono ?_); rintro e w5 ⟨y, rfl, hyv, hok, hrk5⟩; exact G.Done.rel hrk5 ⟨y, rfl, hyv, ⟨hok.1, hok.2.mono fun b _ hb => Nat.le_trans hS.low hb⟩, Nat.le_trans hS.low hrk5.size, hS.s.rd.rk hrk5⟩
  )
  (refine G.chain_rel (KdV w.heap.size (some ⟨ba, oa, none⟩) l c u W V m rb 9 vx) (KdV.grow w.heap.size (some ⟨ba, oa, none⟩) l c u W V m rb 9 vx) (by rfl) ?_ ?_
   · intro act wx hS hr
     simp at hr
     obtain ⟨g0, g1, -⟩ := HAT.out _ hS.s.rd.rd.row
     rw [<- HNA.out] at g1
     obtain ⟨v, hr2, y, rfl, hyv, hok, hlo, hrd5⟩ := hr
     obtain ⟨⟨yk, yb, yt, yp, ys⟩, yB, yc⟩ := y
     simp only [VCl.cells, vlC] at hr2
     all_goals go_simp
     (try simp only [hr2, Option.getD_some]); (try go_simp); exact G.Done.rel (HR.out _ _ ((Below.refl _ _).alloc (Nat.le_refl _) _)) (VaV.kid hyv hok hlo hrd5)
  )
  iterate 1 first
    | (refine G.chain_skip (by rfl) (by rfl) ?_)
    | (apply G.chain_want (by rfl)
       · intro act wx hS hr
         simp at hr
         obtain ⟨g0, g1, -⟩ := HAT.out _ hS.s.rd.rd.row
         rw [<- HNA.out] at g1
         go_simp
         (try go_ints)
         first
           | (refine (HHD.out _).mono ?_; rintro e w5 ⟨rfl, rfl⟩; exact G.Done.same HR.out)
           | exact G.Done.same HR.out
      )
  show ∀ w', _ -> _
  intro w9 hw9
  simp [Act.put]
  case hS => exact ⟨HS2.out, HLT.out⟩
  intro v2 _ v16 _ v17 hv17
  obtain ⟨g17, rfl, hok17, -⟩ := hv17
  have HS5 := Lib.hid hw9.s
  have HOK := Lib.hid (fun x => vok_set (p := fun b => w.heap.size <= b /\ b ≠ w.heap.size) (g := w.heap.size + 1) (j := 4) (x := x) (VOk.deep (H2 := w.heap.size + 2) hok17 (by omega)))
  clear hw9 hok17 HS2 HUT HCC HHD
  have e1 := HS5.out.b.cell 4
  have e2 := HS5.out.b.frozen 4
  simp at e1
  have HSF : Hid (VvS m (some ⟨ba, oa, none⟩) l c u W V rb w #[.int .i64 9, .int .u8 0, .string ⟨#[]⟩, .int .i64 0, .slice (some ⟨g17, 0, none⟩) 1 1] (w9.setCell ⟨w.heap.size + 1, 4, none⟩ (.slice (some ⟨g17, 0, none⟩) 1 1))) := by
    have := HS5.out.setb HR0.out 4 (.slice (some ⟨g17, 0, none⟩) 1 1)
    unfold Hid; simpa using this
  have HPP := Lib.hid (val_close (xk := 9) (xb := 0) (xt := []) (xp := 0) (xs := Vs.of [vx]) (xB := some ⟨g17, 0, none⟩) (xc := 1) HSF.out HV1.out (HOK.out _))
  clear HS5 HOK HV1 HR
  go_upto_region 19 with (fail)
  generalize w9.setCell ⟨w.heap.size + 1, 4, none⟩ (.slice (some ⟨g17, 0, none⟩) 1 1) = w6 at *
  clear e1 e2
  have z0 := HSF.out.z.cell 0
  have z1 := HSF.out.z.cell 1
  have z2 := HSF.out.z.cell 2
  have z3 := HSF.out.z.cell 3
  have z4 := HSF.out.z.cell 4
  simp at z0 z1 z2 z3 z4
  have f0 := HSF.out.z.frozen 0
  have f1 := HSF.out.z.frozen 1
  have f2 := HSF.out.z.frozen 2
  have f3 := HSF.out.z.frozen 3
  have f4 := HSF.out.z.frozen 4
  have b0 := HSF.out.b.cell 0
  have b1 := HSF.out.b.cell 1
  have b2 := HSF.out.b.cell 2
  have b3 := HSF.out.b.cell 3
  have b4 := HSF.out.b.cell 4
  simp at b0 b1 b2 b3 b4
  have HP2 := HPP.out
  unfold put5c at HP2
  have HP3 := Lib.hid HP2
  clear HP2 HPP HSF
  go_wp2
  have HP4 := HP3.out
  clear HP3
  refine bodyPost_ret ?_ rfl HP4
  · simp [results, Try.results32, go_sem]
    go_simp
    all_goals first | rfl | exact ⟨rfl, rfl⟩
theorem value_none {l : List Nd} {c m ba oa : Nat} {V : Wd} {i : Nat} (hk : ¬ ((atN l i).kind = 1 \/ (atN l i).kind = 2 \/ (atN l i).kind = 3 \/ (atN l i).kind = 4 \/ (atN l i).kind = 5 \/ (atN l i).kind = 6 \/ (atN l i).kind = 7 \/ (atN l i).kind = 8 \/ (atN l i).kind = 9)) : ValC (some ⟨ba, oa, none⟩) l c m V i := by
  intro rb u W a b r v w hr hW hab hb hrk hv
  exfalso
  unfold EN at hv
  rw [if_neg (by omega), if_neg (by omega), if_neg (by omega), if_neg (by omega), if_neg (by omega), if_neg (by omega), if_neg (by omega), if_neg (by omega), if_neg (by omega)] at hv
  simp at hv
theorem cval_all {l : List Nd} {c m ba oa : Nat} {V : Wd} (hF : Form l) (hl : l.length <= 4096) (hT : ∀ n ∈ l, n.text.length <= 1073741824) (hn : V.length <= 900)
    (hR : ∀ i, i < l.length -> (atN l i).kind = 7 -> EndsC (some ⟨ba, oa, none⟩) l c m V (atN l i).a.toNat -> ValC (some ⟨ba, oa, none⟩) l c m V (atN l i).a.toNat -> RepC (some ⟨ba, oa, none⟩) l c m ba oa V i) :
    ∀ i, i < l.length -> ValC (some ⟨ba, oa, none⟩) l c m V i /\ PicC (some ⟨ba, oa, none⟩) l c m V i := by
  intro i
  induction i using Nat.strongRecOn with
  | ind i ih =>
    intro hi
    have hA := fun j (hj : j < l.length) => cread_all (c := c) (m := m) (ba := ba) (oa := oa) hF (by omega) hT hn j hj
    by_cases h5 : (atN l i).kind = 5
    · have ha := cnt_kidA hF hi (by omega)
      have hb := cnt_kidB hF hi (.inr h5)
      have hP := pick_or (c := c) (m := m) (ba := ba) (oa := oa) hF hi h5 hn (ih _ ha (by omega)).2 (ih _ hb (by omega)).2
      exact ⟨value_or hF hi h5 hP, hP⟩
    · have hv : ValC (some ⟨ba, oa, none⟩) l c m V i := by
        by_cases h1 : (atN l i).kind = 1
        · exact value_one hF hi h1
        by_cases h2 : (atN l i).kind = 2
        · exact value_byte hF hi h2
        by_cases h3 : (atN l i).kind = 3
        · exact value_text hF hi h3
        by_cases h4 : (atN l i).kind = 4
        · exact value_seq hF hl hi h4 hn (fun j hj => (hA j (by omega)).2.1) (fun j hj => (hA j (by omega)).2.2) fun j hj => (ih j hj (by omega)).1
        by_cases h6 : (atN l i).kind = 6
        · have ha := cnt_kidA hF hi (by omega)
          exact value_star hF hi h6 hn (hA i hi).2.1 (hA _ (by omega)).2.1 (ih _ ha (by omega)).1
        by_cases h7 : (atN l i).kind = 7
        · have ha := cnt_kidA hF hi (by omega)
          exact value_rep hF hi h7 (hR i hi h7 (hA _ (by omega)).2.1 (ih _ ha (by omega)).1)
        by_cases h8 : (atN l i).kind = 8
        · have ha := cnt_kidA hF hi (by omega)
          exact value_frame hF hi h8 hn (ih _ ha (by omega)).1
        by_cases h9 : (atN l i).kind = 9
        · have ha := cnt_kidA hF hi (by omega)
          exact value_wide hF hi h9 hn (ih _ ha (by omega)).1
        exact value_none (by omega)
      exact ⟨hv, pick_other hF hi h5 hn (hA i hi).2.1 hv⟩
theorem wpList_append_v1 {w : World} {ops : Array Oper} {rest : List Oper} {o : Oper} {a : Act} {Q : Exit -> Act -> World -> Prop} (hgd : o.guard = none) (s x : Operand)
    (ho : o.op = .call { callee := .builtin .append, args := #[s, x], argTypes := #[30, 30] })
    (base : Nat) (v : Value) (l : List VCl) (hs : a.eval s = v) (hown : OwnVs w base v l)
    (b : Nat) (p : VCl) (hx : a.eval x = .slice (some ⟨b, 0, none⟩) 1 1) (hnew : Blk w b p.cells 32) (hlen : l.length < 1073741824) (hbase : base <= w.heap.size)
    (h : ∀ v' w', OwnVs w' base v' (l ++ [p]) -> w.grownBy w' v.ownBlock -> (v'.ownBlock = v.ownBlock \/ ∃ g', v'.ownBlock = some g' /\ w.heap.size <= g') -> wpList Try.prog ops Q rest (a.put o.dst v') w') : wpList Try.prog ops Q (o :: rest) a w :=
  wpList_plain hgd fun K hK => wp_append_v1 s x ho base v l hs hown b p hx hnew hlen hbase fun v' w' h1 h2 h3 => hK _ _ (h v' w' h1 h2 h3)
structure VuS (m : Nat) (A : Option Addr) (l : List Nd) (c : Nat) (u : Value) (W : Wd) (rb : Nat) (tv : Value) (L : List VCl) (w0 w : World) : Prop where
  rk : Rk m l W w0.heap.size [] w0 w
  rd : Rdr rb A l c u W W m w
  rd0 : Rdr rb A l c u W W m w0
  own : OwnVs w w0.heap.size tv L
  kids : CKp (fun b => w0.heap.size <= b /\ tv.ownBlock ≠ some b) w L
theorem VuS.call {m : Nat} {A : Option Addr} {l : List Nd} {c : Nat} {u : Value} {W : Wd} {rb : Nat} {tv : Value} {L : List VCl} {w0 w w' : World} (h : VuS m A l c u W rb tv L w0 w) (hk : Rk m l W w.heap.size [] w w') : VuS m A l c u W rb tv L w0 w' := by
  have kc := hk.kc ⟨_, h.rd.kept⟩
  refine ⟨h.rk.call h.rk.size hk, h.rd.rk hk, h.rd0, ?_, fun x hx => ⟨(h.kids x hx).1, (h.kids x hx).2.kc kc⟩⟩
  obtain ⟨h0, ⟨hv, hn⟩ | ⟨g, cap, cur, hv, hb, hg, hr⟩⟩ := h.own
  · exact ⟨h0, .inl ⟨hv, hn⟩⟩
  · have hg' : Blk w g cur 32 := hg
    exact ⟨h0, .inr ⟨g, cap, cur, hv, hb, kc.block g hg'.lt _ _ hg', hr⟩⟩
theorem VuS.later {m : Nat} {A : Option Addr} {l : List Nd} {c : Nat} {u : Value} {W : Wd} {rb : Nat} {tv : Value} {L : List VCl} {w0 w w' : World} (h : VuS m A l c u W rb tv L w0 w) (hb : Below w.heap.size w w') : VuS m A l c u W rb tv L w0 w' := h.call (.of_below hb)
theorem VuS.snoc {m : Nat} {A : Option Addr} {l : List Nd} {c : Nat} {u : Value} {W : Wd} {rb : Nat} {tv tv' : Value} {L : List VCl} {x : VCl} {w0 w w' : World} (h : VuS m A l c u W rb tv L w0 w) (hx : VOk (fun b => w0.heap.size <= b /\ tv.ownBlock ≠ some b) w x)
    (h1 : OwnVs w' w0.heap.size tv' (L ++ [x])) (h2 : w.grownBy w' tv.ownBlock) (h3 : tv'.ownBlock = tv.ownBlock \/ ∃ g', tv'.ownBlock = some g' /\ w.heap.size <= g') : VuS m A l c u W rb tv' (L ++ [x]) w0 w' := by
  have hrk : Rk m l W w0.heap.size [] w0 w' := h.rk.growT h.rk.size h.own (by decide) h2
  refine ⟨hrk, h.rd0.at_ (Nat.le_refl _) hrk, h.rd0, h1, fun y hy => ?_⟩
  have hy' : VOk (fun b => w0.heap.size <= b /\ tv.ownBlock ≠ some b) w y := by
    rcases List.mem_append.1 hy with hy | hy
    · exact h.kids y hy
    · rw [List.mem_singleton.1 hy]; exact hx
  refine ⟨hy'.1, (VRp.blocks (w' := w') (p := fun b => (w0.heap.size <= b /\ tv.ownBlock ≠ some b) /\ b < w.heap.size) ?_ h2.size fun b hb hlt => h2.block b hlt fun e => hb.1.2 e.symm).mono fun b _ hb => ⟨hb.1.1, fun e => ?_⟩⟩
  · exact hy'.2.mono fun b hlt hb => ⟨hb, hlt⟩
  · rcases h3 with h3 | ⟨g', h3, h4⟩
    · exact hb.1.2 (by rw [<- h3]; exact e)
    · rw [h3] at e; cases e
      have := hb.2; omega
theorem VuS.own_lt {m : Nat} {A : Option Addr} {l : List Nd} {c : Nat} {u : Value} {W : Wd} {rb : Nat} {tv : Value} {L : List VCl} {w0 w : World} (h : VuS m A l c u W rb tv L w0 w) {b : Nat} (hb : w.heap.size <= b) : tv.ownBlock ≠ some b := fun e => by
  obtain ⟨-, ⟨hv, -⟩ | ⟨gt, cp, cu, hv, -, hgg, -⟩⟩ := h.own
  · rw [hv] at e; cases e
  · rw [hv] at e
    have e : gt = b := Option.some.inj e
    have := Blk.lt (show Blk w gt cu 32 from hgg)
    omega
theorem VuS.nw {m : Nat} {A : Option Addr} {l : List Nd} {c : Nat} {u : Value} {W : Wd} {rb : Nat} {tv : Value} {L : List VCl} {w0 w : World} (h : VuS m A l c u W rb tv L w0 w) : NwV w0.heap.size w tv (L.map (·.v)) := by
  have hlen : (L.map (·.v)).length = L.length := List.length_map ..
  by_cases h0 : 0 < L.length
  · obtain ⟨g, cap, cur, hv, hb, hk, hc, -⟩ := h.own.blk h0
    obtain ⟨a, cap', hv2, hc2, hrow⟩ := h.own.row
    rw [hv] at hv2; cases hv2
    refine ⟨_, _, by rw [hlen]; exact hv, by rw [hlen]; exact hc, CKp.vrp (fun x hx => ⟨(h.kids x hx).1, (h.kids x hx).2.mono fun b _ hb => hb.1⟩) hrow fun b o e _ => by cases e; exact hb⟩
  · obtain rfl : L = [] := List.eq_nil_of_length_eq_zero (by omega)
    obtain ⟨a, cap', hv2, hc2, hrow⟩ := h.own.row
    exact ⟨a, cap', hv2, hc2, trivial⟩
def RepA (l : List Nd) (V : Wd) : Prop := ∀ (c m ba oa i : Nat), i < l.length -> (atN l i).kind = 7 -> EndsC (some ⟨ba, oa, none⟩) l c m V (atN l i).a.toNat -> ValC (some ⟨ba, oa, none⟩) l c m V (atN l i).a.toNat -> RepC (some ⟨ba, oa, none⟩) l c m ba oa V i
def VusP (w0 : World) (L : List Vl) (e : Ending) (w : World) : Prop := ∃ v, e = .returned v /\ NwV w0.heap.size w v L /\ Below w0.heap.size w0 w
def VuL (m : Nat) (A : Option Addr) (l : List Nd) (c : Nat) (u : Value) (W : Wd) (rb : Nat) (EL : List Vl) (n : Nat) (w0 : World) (x y : Value) (w : World) : Prop :=
  ∃ (k : Nat) (L : List VCl), k <= n /\ x = .int .i64 (k : Int) /\ L.map (·.v) = EL.take k /\ VuS m A l c u W rb y L w0 w
set_option maxHeartbeats 16000000 in
theorem cValues_any {A : Option Addr} {l : List Nd} {c : Nat} {u : Value} {W : Wd} (hRep : RepA l W) (hF : Form l) (hl : l.length <= 4096) (hT : ∀ n ∈ l, n.text.length <= 1073741824) (hn : W.length <= 900) (w : World) (hrow : NRow w A l) (hw : IsW W u w) :
    Calls Try.prog 16 #[.agg #[.slice A l.length c], u] w (VusP w ((EN l (l.length - 1) W).take 2)) := by
  have hpos : 0 < l.length := hF.1
  obtain ⟨ba, oa, rfl, -, -⟩ := hrow 0 hpos
  have hb1 := (Below.refl w.heap.size w).alloc (Nat.le_refl _) (.cells #[.slice (some ⟨ba, oa, none⟩) l.length c] 24)
  have HS1 : Hid (WyS w (some ⟨ba, oa, none⟩) l c W u (w.alloc (.cells #[.slice (some ⟨ba, oa, none⟩) l.length c] 24))) := ⟨hb1, hrow.later hb1, hw.later hb1, Blk.new w _ _⟩
  have HO : Hid (∀ w', NRow w' (some ⟨ba, oa, none⟩) l -> Calls Try.prog 28 #[.slice (some ⟨ba, oa, none⟩) l.length c] w' (Ans w' (.bool true))) := fun w' h => cordered_any _ l c hF hl w' h
  have HN : Hid (∀ w', NRow w' (some ⟨ba, oa, none⟩) l -> IsW W u w' -> Calls Try.prog 29 #[.agg #[.slice (some ⟨ba, oa, none⟩) l.length c], u] w' (NrP w' (some ⟨ba, oa, none⟩) l c W)) := fun w' h1 h2 => cnewReader_any _ l c u W w' h1 h2
  have HE : Hid (∀ m, EndsC (some ⟨ba, oa, none⟩) l c m W (l.length - 1)) := fun m => (cread_all hF (by omega) hT hn (l.length - 1) (by omega)).2.1
  have HV : Hid (∀ m, ValC (some ⟨ba, oa, none⟩) l c m W (l.length - 1)) := fun m => (cval_all hF hl hT hn (fun i h1 h2 h3 h4 => hRep c m ba oa i h1 h2 h3 h4) (l.length - 1) (by omega)).1
  obtain ⟨Au, cu, rfl, hcu⟩ := hw.len
  have hlz : (l.length : Int) <= 4096 := by omega
  have hlz1 : (1 : Int) <= (l.length : Int) := by omega
  have hsubz : (l.length : Int) - 1 = ((l.length - 1 : Nat) : Int) := by omega
  have hWz : (W.length : Int) <= 900 := by omega
  have HX : Hid (rowV l (l.length - 1) W 0 W.length = min 2 (EN l (l.length - 1) W).length) := by
    have h1 := wyD_eq (l := l) (W := W)
    rw [<- EN_length hF (by omega) W] at h1
    exact h1
  have HWN := Lib.hid hn
  have HSG : Hid (sgW W 0 W.length = W) := sgW_all
  clear hrow hw hb1 hF hT hRep
  have HC1 := Lib.hid (HO.out _ HS1.out.row)
  go_enter Try.func16, Try.ntmps16
  go_wp2_with fail
  refine HC1.out.mono ?_; rintro e w2 ⟨rfl, hb2⟩
  have HS2 := Lib.hid (HS1.out.later (hb2.mono (Nat.le_refl _)))
  clear HC1 HO hb2 HS1
  have d0 := HS2.out.box.cell 0
  simp at d0
  have HN1 := Lib.hid (HN.out _ HS2.out.row HS2.out.wd)
  go_wp2_with fail
  refine HN1.out.mono ?_; rintro e w7 h7; obtain ⟨v7, rfl, hr7, hb7⟩ := h7.nr HS2.out.bel.size
  obtain ⟨rb8, uR, m8, rfl, hr8, hm8⟩ := hr7
  have HS8 := Lib.hid (HS2.out.later hb7)
  have HR8 := Lib.hid hr8
  have HM8 := Lib.hid hm8
  clear d0 HN1 h7 hb7 hr8 hm8 HN HS2
  have d0 := HS8.out.box.cell 0
  simp at d0
  have HC := Lib.hid (cways_any (HE.out m8) rb8 uR W 0 W.length w7 HR8.out (List.prefix_refl W) HWN.out (Nat.zero_le _) (Nat.le_refl _))
  rw [HX.out] at HC
  clear HE
  go_wp2_with fail
  refine HC.out.mono ?_; rintro e9 w9 ⟨rfl, hrk9⟩
  have HR9 := Lib.hid (HR8.out.rk hrk9)
  have HB9 := Lib.hid (HS8.out.bel.trans (hrk9.below HM8.out HS8.out.bel.size))
  clear hrk9 HC HR8 HS8 d0
  obtain ⟨EL, hEL⟩ : ∃ EL, EN l (l.length - 1) W = EL := ⟨_, rfl⟩
  have HEL := Lib.hid hEL
  rw [hEL]
  clear hEL HX
  obtain ⟨n, hn2⟩ : ∃ n, min 2 EL.length = n := ⟨_, rfl⟩
  have HTK : Hid (EL.take 2 = EL.take n) := by
    unfold Hid; rw [<- hn2]
    by_cases h : 2 <= EL.length
    · rw [Nat.min_eq_left h]
    · rw [Nat.min_eq_right (by omega), List.take_length, List.take_of_length_le (by omega)]
  have HNE : Hid (n <= EL.length /\ n <= 2) := by unfold Hid; omega
  rw [hn2]
  clear hn2
  have hnz : (n : Int) <= 2 := by have := HNE.out.2; omega
  have HM9 : Hid (w.heap.size <= w9.heap.size) := HB9.out.size
  generalize hlx : l.length - 1 = lx at *
  clear hlx hsubz
  go_wp2
  go_loopw [25, 7] (VuL m8 (some ⟨ba, oa, none⟩) l c uR W rb8 EL n w9) (fun x _ _ => n - (intOf x).toNat)
  case atStart => exact ⟨0, [], Nat.zero_le _, rfl, by simp, ⟨.refl _ _, HR9.out, HR9.out, ⟨by simp [flatV], .inl ⟨rfl, rfl⟩⟩, fun y hy => by cases hy⟩⟩
  case round =>
    rename_i x y
    obtain ⟨k, L, hk, rfl, hL, hs⟩ := hrel
    have HLE := Lib.hid hL
    have hLl : L.length = k := by
      have := congrArg List.length hL
      rw [List.length_map, List.length_take] at this
      have := HNE.out.1
      omega
    obtain ⟨Ay, cy, rfl, hcy, -⟩ := hs.own.row
    have HS := Lib.hid hs
    rw [hLl] at HS ⊢
    clear hs hL
    by_cases hkn : k < n
    · have hkz : (k : Int) < (n : Int) := by omega
      have hvk : (EN l lx (sgW W 0 W.length))[k]? = some (EL[k]'(by have := HNE.out.1; omega)) := by rw [HSG.out, HEL.out]; exact List.getElem?_eq_getElem _
      obtain ⟨v, hv⟩ : ∃ v, EL[k]'(by have := HNE.out.1; omega) = v := ⟨_, rfl⟩
      rw [hv] at hvk
      have HTV : Hid (EL.take (k + 1) = EL.take k ++ [v]) := by
        unfold Hid; rw [<- hv, List.take_add_one, List.getElem?_eq_getElem (by have := HNE.out.1; omega)]; rfl
      have HC := Lib.hid (HV.out m8 rb8 uR W 0 W.length k v wr HS.out.rd (List.prefix_refl W) (Nat.zero_le _) (Nat.le_refl _) (by have := HNE.out.2; omega) hvk)
      clear hvk hv
      go_wp2_with fail
      refine HC.out.mono ?_; rintro e w5 ⟨x5, rfl, hx5, hok5, hrk5⟩
      have HS5 := Lib.hid (HS.out.call hrk5)
      have hb6 := (Below.refl w5.heap.size w5).alloc (Nat.le_refl _) (.cells x5.cells 32)
      have HS6 := Lib.hid (HS5.out.later hb6)
      have HOK : Hid (VOk (fun b => w9.heap.size <= b /\ (Value.slice Ay k cy).ownBlock ≠ some b) (w5.alloc (.cells x5.cells 32)) x5) := ⟨hok5.1, (hok5.2.later hb6).mono fun b _ hb => ⟨Nat.le_trans HS.out.rk.size hb, HS.out.own_lt hb⟩⟩
      have HBK := Lib.hid (Blk.new w5 x5.cells 32)
      have HX5 := Lib.hid hx5
      have hlow : w9.heap.size <= (w5.alloc (.cells x5.cells 32)).heap.size := HS6.out.rk.size
      have HKZ : Hid (L.length < 1073741824) := by have := HNE.out.2; unfold Hid; omega
      clear hb6 hok5 hrk5 hx5 HC HS HS5
      obtain ⟨⟨xk, xb, xt, xp, xs⟩, xB, xc⟩ := x5
      simp only [VCl.cells, vlC] at *
      go_wp2_with (at_builtin; refine wpList_append_v1 rfl _ _ rfl w9.heap.size _ L rfl HS6.out.own _ ⟨⟨xk, xb, xt, xp, xs⟩, xB, xc⟩ rfl HBK.out HKZ.out hlow ?_; intro v' w6 h1 h2 h3; have HS7 := Lib.hid (HS6.out.snoc HOK.out h1 h2 h3); clear h1 h2 h3)
      clear HS6 HOK HBK
      go_wp2
      go_roundw
      case rel => exact ⟨k + 1, L ++ [⟨⟨xk, xb, xt, xp, xs⟩, xB, xc⟩], by omega, by go_num, by rw [HTV.out, List.map_append, HLE.out, <- HX5.out]; rfl, HS7.out⟩
      case measure => simp [intOf]; omega
    · obtain rfl : k = n := by omega
      have HP : Hid (VusP w (EL.take 2) (.returned (.slice Ay k cy)) wr) := by
        obtain ⟨A1, c1, e1, e2, e3⟩ := HS.out.nw
        refine ⟨_, rfl, ⟨A1, c1, by rw [e1, HLE.out, HTK.out], by rw [HTK.out, <- HLE.out]; exact e2, ?_⟩, HB9.out.trans (HS.out.rk.below HM8.out HM9.out)⟩
        rw [HTK.out, <- HLE.out]
        exact e3.mono fun b _ hb => Nat.le_trans HM9.out hb
      have hkz : ¬ (k : Int) < (k : Int) := by omega
      clear HS HV
      go_wp2
      go_ret
      rw [HEL.out]; exact HP.out
def Yields (P : Program) (g : Nat) (lb : Array Value) (N : Nat) (ag : Nat -> Array Value) (I : Nat -> World -> Prop) : Prop :=
  ∀ (l : Nat) (J : Nat -> World -> Prop) (W : World), (∀ k W, J k W -> I k W) ->
    (∀ k W1, k < N -> J k W1 -> YieldAt Fence.wide 1 P l (ag k) W1 fun e W' => e = .returned (.bool true) /\ J (k + 1) W') -> J 0 W ->
    CallsIn Fence.wide 2 P g (#[.func (.yield l) #[] #[]] ++ lb) W fun e W' => (∃ v, e = .returned v) /\ J N W'
theorem range_known {P : Program} {g : Operand} {ps : Array Tmp} {assign body : Code} {Q : Exit -> Act -> World -> Prop} {a : Act} {w : World}
    {gf : Nat} {lb : Array Value} (hg : a.eval g = .func (.func gf) #[] lb) (eg : ∀ args w, (callFunc gf args).run P w = .ok (.enter gf args) w)
    {N : Nat} {ag : Nat -> Array Value} {I : Nat -> World -> Prop} (hseq : Yields P gf lb N ag I) (hps : ∀ k, (ag k).size = ps.size)
    (hI : ∀ k W l o o', I k W -> w.heap.size <= l -> W.heap[l]? = some o -> o.isCells = false -> I k (W.putObj l o'))
    (h0 : ∀ o o', I 0 ((w.alloc o).alloc o')) (a₁ : Nat -> Act)
    (hassign : ∀ (l k : Nat) (W : World) (K : Act -> World -> Prop), k < N -> K (a₁ k) W ->
      assign.wpIn (Fence.wide.inRound l) 1 P (Exit.then K (fun _ _ _ => False)) { tmps := (ps.zip (ag k)).foldl (fun t (p, v) => t.setIfInBounds p v) a.tmps, defers := [] } W)
    (hbody : ∀ (l k : Nat) (W : World), k < N -> I k W -> body.wpIn (Fence.wide.inRound l) 1 P (fun e _ W' => e = .normal /\ KeepsFrom w.heap.size W W' /\ I (k + 1) W') (a₁ k) W)
    (hdone : ∀ (W : World), I N W -> W.heap[w.heap.size]? = some (.deferred (some [])) -> Q .normal { a with defers := { target := .collected w.heap.size, args := #[] } :: a.defers } W) :
    (Code.rangeFunc g ps assign body).wpIn Fence.wide 3 P Q a w := by
  refine wpIn_rangeFunc fun fn hfn => ?_
  let rc : LoopState -> Loop := fun st => { state := st, pending := none, fn, tmps := a.tmps, params := ps, assign, body, defers := w.heap.size }
  let W1 : World := (w.alloc (.deferred (some []))).alloc (.loop (rc .ready))
  let J : Nat -> World -> Prop := fun k W => I k W /\ W.heap[w.heap.size + 1]? = some (.loop (rc .ready)) /\ W.heap[w.heap.size]? = some (.deferred (some []))
  have hL1 : W1.heap[w.heap.size + 1]? = some (.loop (rc .ready)) := by
    have := World.alloc_heap_new (w.alloc (.deferred (some []))) (.loop (rc .ready))
    rwa [World.size_alloc] at this
  have hK1 : W1.heap[w.heap.size]? = some (.deferred (some [])) := (Below.heap_alloc _ _ _ (by simp)).trans (World.alloc_heap_new w _)
  refine ⟨w.heap.size + 1, [{ target := .collected w.heap.size, args := #[] }], W1, { target := .fn (.func gf) lb, args := #[.func (.yield (w.heap.size + 1)) #[] #[]] }, W1, gf, #[.func (.yield (w.heap.size + 1)) #[] #[]] ++ lb, W1, run_enterLoop_outer _ _ _ _ _, ?_, ?_, ?_, fun _ => by decide, ?_⟩
  · simp only [resolve, hg]
    simp [go_sem]
  · intro f' hf'; trivial
  · simp [invoke, go_sem, eg]
  refine (hseq (w.heap.size + 1) J W1 (fun k W h => h.1) (fun k W hk hJ => ?_) ⟨h0 _ _, hL1, hK1⟩).mono ?_
  · obtain ⟨hi, hl, hd⟩ := hJ
    have hlt : w.heap.size + 1 < W.heap.size := (Array.getElem?_eq_some_iff.1 hl).1
    refine ⟨fn, _, assign, body, run_yield (P := P) (args := ag k) hl (hps k), roundIn_of_wpIn hfn (hassign _ k W _ hk ⟨_, run_beginRound hl rfl, ?_⟩)⟩
    have hl2 : (W.putObj (w.heap.size + 1) (.loop { rc .ready with state := .busy })).heap[w.heap.size + 1]? = some (.loop { rc .ready with state := .busy }) := World.putObj_heap_same hlt
    have hd2 : (W.putObj (w.heap.size + 1) (.loop { rc .ready with state := .busy })).heap[w.heap.size]? = some (.deferred (some [])) := (World.putObj_heap_other (by omega)).trans hd
    refine wpIn_mono (hbody _ k _ hk (hI k W _ _ _ hi (by omega) hl rfl)) ?_
    rintro e a3 W3 ⟨rfl, hk3, hi3⟩
    have hl3 := hk3.same _ _ (by omega) hl2 rfl
    have hd3 := hk3.same _ _ (Nat.le_refl _) hd2 rfl
    exact ⟨_, _, run_endRound (P := P) none hl3, rfl, hI _ _ _ _ _ hi3 (by omega) hl3 rfl, World.putObj_heap_same (Array.getElem?_eq_some_iff.1 hl3).1, (World.putObj_heap_other (by omega)).trans hd3⟩
  · rintro e W2 ⟨⟨v, rfl⟩, hi, hl, hd⟩
    exact ⟨none, _, run_endLoop (P := P) hl (by simp [rc]), hdone _ (hI _ _ _ _ _ hi (by omega) hl rfl) ((World.putObj_heap_other (by omega)).trans hd)⟩
attribute [local go_sem] Oper.semAt_some
def bwA (N : Nat) (vs : List Value) (k : Nat) : Array Value := #[.int .i64 ((N - k : Nat) - 1 : Int), vs.getD (N - k - 1) (.int .i64 0)]
set_option maxHeartbeats 4000000 in
theorem back_yields (Bs N c : Nat) (A : Option Addr) (vs : List Value) (I : Nat -> World -> Prop) (hN : N <= 1000000)
    (hI : ∀ k W, I k W -> W.cell? ⟨Bs, 0, none⟩ = some (.slice A N c) /\ ∀ j, j < N -> ∃ b off, A = some ⟨b, off, none⟩ /\ W.cell? ⟨b, off + j, none⟩ = some (vs.getD j (.int .i64 0))) :
    Yields Try.prog 78 #[.pointer (some ⟨Bs, 0, none⟩)] N (bwA N vs) I := fun l J W hJI hY h0 => by
  have hc0 := (hI _ _ (hJI _ _ h0)).1
  refine callsIn_of_wp Try.func78 rfl trivial ?_
  simp only [Try.ntmps78, List.size_toArray, List.length_cons, List.length_nil, Nat.reduceAdd, Nat.reduceSub, Array.replicate_succ, Array.replicate_zero, List.push_toArray, List.append_toArray, List.nil_append, List.cons_append]
  have hNz : (N : Int) <= 1000000 := by omega
  gi_wp2
  gi_loopw [3] (fun i wr => ∃ k : Nat, k <= N /\ i = .int .i64 ((N - k : Nat) - 1 : Int) /\ J k wr) (fun i _ => (intOf i + 1).toNat)
  case atStart => exact ⟨0, Nat.zero_le _, rfl, h0⟩
  case round =>
    obtain ⟨k, hk, rfl, hJs⟩ := hrel
    obtain ⟨hc, hcs⟩ := hI k wr (hJI _ _ hJs)
    by_cases hlt : k < N
    · obtain ⟨j, hj⟩ : ∃ j, N - k = j + 1 := ⟨N - k - 1, by omega⟩
      have hjN : j < N := by omega
      obtain ⟨b, off, rfl, hcell⟩ := hcs j hjN
      obtain ⟨fn, tmps, assign, body, hy, hR⟩ := hY k wr hlt hJs
      have hag : bwA N vs k = #[.int .i64 (j : Int), vs.getD j (.int .i64 0)] := by
        unfold bwA; rw [hj, show j + 1 - 1 = j by omega, show ((j + 1 : Nat) : Int) - 1 = (j : Int) by omega]
      have e : ((N - k : Nat) : Int) - 1 = (j : Int) := by omega
      rw [e]
      rw [hag] at hy
      generalize vs.getD j (.int .i64 0) = vj at *
      have hj0 : ¬ (j : Int) < 0 := by omega
      have hj1 : (0 : Int) <= (j : Int) := by omega
      have hjz : (j : Int) < (N : Int) := by omega
      clear hcs hI hJI hY h0 hag e hc0
      gi_wp2
      refine hR.mono ?_
      rintro e W3 ⟨rfl, hJ3⟩
      gi_wp2
      go_roundw
      case rel => exact ⟨k + 1, by omega, by rw [show N - (k + 1) = j by omega], hJ3⟩
      case measure => simp [intOf]
    · obtain rfl : k = N := by omega
      have e : ((k - k : Nat) : Int) - 1 = -1 := by omega
      rw [e]
      clear hcs
      gi_wp2
      go_end0
      exact ⟨⟨_, rfl⟩, hJs⟩
set_option maxHeartbeats 4000000 in
theorem backward_any (N c : Nat) (A : Option Addr) (w : World) :
    Calls Try.prog 64 #[.slice A N c] w (fun e w' => e = .returned (.func (.func 78) #[] #[.pointer (some ⟨w.heap.size, 0, none⟩)]) /\ w' = w.alloc (.cells #[.slice A N c] 99)) := by
  go_enter Try.func64, Try.ntmps64
  go_wp2
  go_ret
  exact ⟨rfl, rfl⟩
end Go.Proofs.Ytpbbokdmoaadfaa
