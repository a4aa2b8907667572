/- Counting: a repeat's Kids. Walked. -/
import Derived.Test.YtpbbokdmoaadfaaM37
import Derived.Test.YtpbbokdmoaadfaaM20
import Derived.Test.YtpbbokdmoaadfaaM34
import Derived.Test.YtpbbokdmoaadfaaM18
import Derived.Test.YtpbbokdmoaadfaaM07
import Derived.Test.YtpbbokdmoaadfaaM22
import Derived.RangeFuncBox
import Derived.Shelf.Abstract
import Derived.WalkKit
import Derived.OwnWalkIn
import Derived.TacticsInMore
import Derived.LoopNIn
import Derived.LoopIn
namespace Go.Proofs.Ytpbbokdmoaadfaa
set_option maxHeartbeats 64000000
set_option maxRecDepth 1000000
set_option linter.all false
open Go Go.RowKit
attribute [local go_sem] Oper.semAt_some
theorem rkb_kid {l : List Nd} {c m ba oa : Nat} {V : Wd} {ai : Nat} (hF : Form l) (hai : ai < l.length) (hn : V.length <= 900) (hE : EndsC (some ⟨ba, oa, none⟩) l c m V ai) (hV : ValC (some ⟨ba, oa, none⟩) l c m V ai)
 {rb : Nat} {u : Value} {W : Wd} {fr tt K hb : Nat} {nd list v : Value} {vs : List Value} {xs : List Vl} {aS : Option Addr} {cS : Nat} {w1 w4 : World} (hW : W <+: V) (htt : tt <= W.length) (hK : K <= 256)
 (h4 : RkidS m (some ⟨ba, oa, none⟩) l c u W V rb ai fr K K hb nd list v vs w1 w4) {k : Nat} {w : World} (hk : k < K) (h : RkbI m l V ai W rb K cS aS fr tt xs w4 k w) :
 Calls Try.prog 62 #[.pointer (some ⟨w4.heap.size, 0, none⟩), .int .i64 (ai : Int), vs.getD (K - k - 1) (.int .i64 0)] w (fun e w' => e = .returned (.tuple #[]) /\ Rk m l V w4.heap.size [] w w' /\ RkbI m l V ai W rb K cS aS fr tt xs w4 (k + 1) w') := by
 obtain ⟨t1, r1, tv, L, ys, h1, h2, h3, h4', hL, h5, h6, hs⟩ := h
 have hkc := hs.kp.kc ⟨_, h4.rd.kept⟩
 have hvl : vs.length = K := by have := h4.ls.1; rw [rpR_length] at this; exact this
 have hls := (h4.ls.kc hkc).2 (K - k - 1) (by omega)
 rw [rpR_get (by omega)] at hls
 have hfe : (fun p => min 2 (tV l ai (K - k - 1) W fr p)) = nowV l ai W fr (K - k - 1) := by funext p; rw [tV_now]
 rw [<- hfe] at hls
 have hKk : K - k = K - k - 1 + 1 := by omega
 rw [hKk] at h5
 obtain ⟨hs1, hs2⟩ := rp_step hF hai h2 (by omega) h5
 refine (cwkid2_any hF hai hE hV rb u W w4.heap.size w4.heap.size t1 r1 tv L (tV l ai (K - k - 1) W fr) _ w4 w h4.rd (Nat.le_refl _) hs.kp hW hn hs.kp.size hs.wk (by omega) h4' (by omega) hls hs1).mono ?_
 rintro e w' ⟨⟨q, r, s, x, j1, j2, j3, j4, j5, tv', x', rfl, j6, j7, j8⟩, j9⟩
 obtain ⟨j10, ys', j11, j12⟩ := hs2 q r s x j1 j3 j4 j5
 refine ⟨rfl, j8, q, r, tv', L ++ [x'], ys', hk, j10, by omega, j2, by simp; omega, ?_, by rw [h6, j12, List.map_append, List.reverse_append]; simp [j6], hs.kp.then j8, j7, j9 _ _ _ (by decide) (by omega) hs.bx, j9 _ _ _ (by decide) (by omega) hs.bs⟩
 rw [show K - (k + 1) = K - k - 1 by omega]
 exact j11
theorem crepKids_any {l : List Nd} {c m ba oa : Nat} {V : Wd} {i : Nat} (hF : Form l) (hi : i < l.length) (hk7 : (atN l i).kind = 7) (hn : V.length <= 900) (hE : EndsC (some ⟨ba, oa, none⟩) l c m V (atN l i).a.toNat) (hV : ValC (some ⟨ba, oa, none⟩) l c m V (atN l i).a.toNat) : RepC (some ⟨ba, oa, none⟩) l c m ba oa V i := fun rb u W fr tt rk xs w hr hW hft ht hrk hx => by
 have hWn : W.length <= 900 := by obtain ⟨t, rfl⟩ := hW; simp at hn; omega
 have ha := cnt_kidA hF hi (by omega)
 have hal : (atN l i).a.toNat < l.length := by omega
 have haz : (((atN l i).a.toNat : Nat) : Int) = (atN l i).a := by
  have hcs := (hF.2.1 i hi).cs rfl
  cases hcs with
  | leaf h1 hf => unfold leafK at h1; omega
  | one h1 hi0 ha hb h7 hr hcl hf => omega
  | two h1 hi0 hb ha hf0 hl hcl hf => omega
 have h0b := rep_lo hF hi hk7
 obtain ⟨lo, hlo⟩ : ∃ lo, (atN l i).lo.toNat = lo := ⟨_, rfl⟩
 obtain ⟨N, hN⟩ : ∃ N, ((atN l i).hi + 1 - (atN l i).lo).toNat = N := ⟨_, rfl⟩
 have hloz : (lo : Int) = (atN l i).lo := by omega
 have hlN : lo + N <= 256 := by omega
 have HX : Hid (RpC l (atN l i).a.toNat W fr tt lo N 0 rk xs) := by
  unfold Hid RpC
  rw [show max 0 lo = lo by omega, show lo + N - lo = N by omega, <- rpL_of]
  rw [hlo, hN] at hx
  exact hx
 have HAT : Hid (∀ w', NRow w' (some ⟨ba, oa, none⟩) l -> At10 w' ba (oa + i * 10) (atN l i)) := Lib.hid fun w' h => h.at hi rfl
 unfold At10 at HAT
 have HR0 := Lib.hid hr
 have HWW := Lib.hid hW
 have HE := Lib.hid hE
 have HV := Lib.hid hV
 have HFI : Hid (Form l /\ (atN l i).a.toNat < l.length) := ⟨hF, hal⟩
 clear hr hW hE hV hF hi hx ha hal hk7 h0b hlo hN
 rw [<- hloz] at HAT
 clear hloz
 generalize (atN l i).a.toNat = ai at *
 have HAZ := Lib.hid haz
 clear haz
 have hb1 := ((Below.refl w.heap.size w).alloc (Nat.le_refl _) (.cells #[.pointer (some ⟨ba, oa + i * 10, none⟩)] 80))
 have hz1 := Blk.new w #[.pointer (some ⟨ba, oa + i * 10, none⟩)] 80
 have hb2 := ((Below.refl (w.alloc (.cells #[.pointer (some ⟨ba, oa + i * 10, none⟩)] 80)).heap.size _).alloc (Nat.le_refl _) (.cells #[.int .i64 (fr : Int), .int .i64 1] 92))
 have hz2 := Blk.new (w.alloc (.cells #[.pointer (some ⟨ba, oa + i * 10, none⟩)] 80)) #[.int .i64 (fr : Int), .int .i64 1] 92
 have hs1 : (w.alloc (.cells #[.pointer (some ⟨ba, oa + i * 10, none⟩)] 80)).heap.size = w.heap.size + 1 := World.size_alloc _ _
 have HB1 := Lib.hid (hb1.trans (hb2.mono hb1.size))
 have HZ1 := Lib.hid (hz1.later hb2)
 rw [hs1] at hz2
 have HZ2 := Lib.hid hz2
 clear hb1 hz1 hb2 hz2 hs1
 refine (callsIn_wide (n := 3)).1 ?_
 refine callsIn_of_wp_marks Try.func50 rfl trivial ?_
 refine wpIn_wide.2 ?_
 simp only [Try.ntmps50, List.size_toArray, List.length_cons, List.length_nil, Nat.reduceAdd, Nat.reduceSub, Array.replicate_succ, Array.replicate_zero, List.push_toArray, List.append_toArray, List.nil_append, List.cons_append]
 go_upto_region 3 with (fail)
 generalize (w.alloc (.cells #[.pointer (some ⟨ba, oa + i * 10, none⟩)] 80)).alloc (.cells #[.int .i64 (fr : Int), .int .i64 1] 92) = w1 at *
 have HR1 := Lib.hid (HR0.out.later HB1.out)
 have HS0 : Hid (RkidL m (some ⟨ba, oa, none⟩) l c u W V rb ai fr tt lo N w.heap.size (.pointer (some ⟨ba, oa + i * 10, none⟩)) xs w1 (.int .i64 (rk : Int)) (.slice (some ⟨w.heap.size + 1, 0, none⟩) 1 1) (.slice none 0 0) (.int .i64 0) w1) := by
  refine ⟨0, rk, [], Nat.zero_le _, hrk, rfl, rfl, HX.out, ⟨.refl _ _, HR1.out, HZ1.out, .nil _ _, .nil _, ?_⟩⟩
  rw [plF_congr (G := fun b => if b = fr then 1 else 0) fun b hb => now_zero HFI.out.1 HFI.out.2 (by omega), plF_one (by omega) (by decide)]
  exact ⟨_, _, rfl, Nat.le_refl _, RcRow.one HZ2.out⟩
 clear HX HZ1 HZ2 hrk
 go_wp2
 go_loopw [4, 11, 12, 13] (RkidL m (some ⟨ba, oa, none⟩) l c u W V rb ai fr tt lo N w.heap.size (.pointer (some ⟨ba, oa + i * 10, none⟩)) xs w1) (fun _ _ _ x _ => lo + N + 1 - (intOf x).toNat)
 case atStart => exact HS0.out
 case round =>
  obtain ⟨k, r, vs, hk, hr1, rfl, rfl, hc, hs⟩ := hrel
  obtain ⟨A2, c2, hx11, -, -⟩ := hs.cur
  subst hx11
  have HS := Lib.hid hs
  have HC := Lib.hid hc
  have HVL : Hid (vs.length = k) := by have := hs.ls.1; rw [rpR_length] at this; exact this
  have HWY := Lib.hid (cwaysTo_any (W.length + 1) (nowV l ai W fr k) _ tt (by omega) (by omega) wr hs.cur)
  generalize (plF (W.length + 1) (nowV l ai W fr k)).length = n2 at *
  have d0 := hs.box.cell 0
  simp at d0
  obtain ⟨-, -, -, g3, -⟩ := HAT.out _ hs.rd.rd.row
  clear hs hc HS0
  by_cases hlt : k < lo
  ·have hge : ¬ (k : Int) >= (lo : Int) := by omega
   have HSX := HS
   have HCX := Lib.hid (HC.out.next hlt)
   clear HC HS
   have HNE := Lib.hid (RpC.some HFI.out.1 HFI.out.2 hft ht (Nat.le_succ k) HCX.out).1
   have hb6 := (Below.refl wr.heap.size wr).alloc (Nat.le_refl _) (.cells #[.slice A2 n2 c2] 78)
   have HX6 := Lib.hid (Blk.new wr #[.slice A2 n2 c2] 78)
   have HS6 := Lib.hid (HSX.out.later hb6)
   have HVB : Hid (vs.length < 1073741000) := by unfold Hid; rw [HVL.out]; omega
   clear hb6 HSX
   go_upto_region 10 with (at_builtin; refine wpList_plain rfl fun K hK => ?_; refine wp_append_ls _ _ rfl w1.heap.size _ vs rfl HS6.out.own wr.heap.size A2 n2 c2 rfl HX6.out HVB.out HS6.out.rk.size ?_; intro v' w7 h1 h2; have HS7 := Lib.hid (HS6.out.grow HR1.out rfl h1 h2); have d0 := HS7.out.box.cell 0; simp at d0; obtain ⟨-, g1, -⟩ := HAT.out _ HS7.out.rd.rd.row; rw [<- HAZ.out] at g1; refine hK _ _ ?_; clear h1 h2 hK K)
   go_wp2_with fail
   have HMO := Lib.hid (cmore_any HE.out rb u W (nowV l ai W fr k) (.slice A2 n2 c2) w7 HS7.out.rd HWW.out hn (fun b => nowV_le) HS7.out.cur HNE.out)
   rw [rp_more HFI.out.1 HFI.out.2] at HMO
   refine HMO.out.mono ?_; rintro e w9 ⟨v9, rfl, hi9, hk9, -⟩
   have HS9 := Lib.hid (HS7.out.next hi9 hk9)
   obtain ⟨A9, c9, rfl, -, -⟩ := hi9
   clear hk9 HMO HS7 HX6 HS6 HVB
   generalize (plF (W.length + 1) (nowV l ai W fr (k + 1))).length = n9 at HS9 ⊢
   go_wp2
   go_roundw
   case rel => exact ⟨k + 1, r, _, by have := (RpC.some HFI.out.1 HFI.out.2 hft ht (Nat.le_refl _) HCX.out).2; omega, by omega, rfl, by go_num, HCX.out, HS9.out⟩
   case measure => have := (RpC.some HFI.out.1 HFI.out.2 hft ht (Nat.le_refl _) HCX.out).2; simp [intOf] <;> omega
  ·have hge : (k : Int) >= (lo : Int) := by omega
   obtain ⟨hkN, hbr, hgo⟩ := HC.out.step HFI.out.1 HFI.out.2 hft hr1 (by omega)
   go_wp2_with fail
   refine HWY.out.mono ?_; rintro e w4 ⟨rfl, hb4⟩
   have HS4 := Lib.hid (HS.out.later hb4)
   clear hb4 HWY HS d0 g3 HC
   have HBR := Lib.hid hbr
   have HGO := Lib.hid hgo
   clear hbr hgo
   have hwl : nowV l ai W fr k tt <= 2 := nowV_le
   generalize nowV l ai W fr k tt = wy at *
   by_cases hcmp : r < wy
   ·have hcz : (r : Int) < (wy : Int) := by omega
    have HQ := Lib.hid (HBR.out hcmp)
    clear HBR HGO
    obtain ⟨aS, cS, hvS, hls⟩ := HS4.out.own.lsRow
    rw [HVL.out] at hvS
    subst hvS
    have HLS := Lib.hid hls
    clear hls
    have hbA := (Below.refl w4.heap.size w4).alloc (Nat.le_refl _) (.cells #[.pointer (some ⟨rb, 0, none⟩), .int .i64 (tt : Int), .int .i64 (r : Int), .slice none 0 0] 102)
    have hzA := Blk.new w4 #[.pointer (some ⟨rb, 0, none⟩), .int .i64 (tt : Int), .int .i64 (r : Int), .slice none 0 0] 102
    have hsA : (w4.alloc (.cells #[.pointer (some ⟨rb, 0, none⟩), .int .i64 (tt : Int), .int .i64 (r : Int), .slice none 0 0] 102)).heap.size = w4.heap.size + 1 := World.size_alloc _ _
    go_upto_region 12 with (fail)
    generalize w4.alloc (.cells #[.pointer (some ⟨rb, 0, none⟩), .int .i64 (tt : Int), .int .i64 (r : Int), .slice none 0 0] 102) = wA at *
    have hbB := (Below.refl wA.heap.size wA).alloc (Nat.le_refl _) (.cells #[.pointer (some ⟨w4.heap.size, 0, none⟩)] 100)
    have hzB := Blk.new wA #[.pointer (some ⟨w4.heap.size, 0, none⟩)] 100
    have hsB : (wA.alloc (.cells #[.pointer (some ⟨w4.heap.size, 0, none⟩)] 100)).heap.size = w4.heap.size + 2 := by rw [World.size_alloc, hsA]
    generalize wA.alloc (.cells #[.pointer (some ⟨w4.heap.size, 0, none⟩)] 100) = wB at *
    have hbC := (Below.refl wB.heap.size wB).alloc (Nat.le_refl _) (.cells #[.slice aS k cS] 99)
    have hzC := Blk.new wB #[.slice aS k cS] 99
    rw [hsB] at hzC
    rw [hsA] at hzB
    have HS6 : Hid (RkbS m l V rb k cS aS tt r (.slice none 0 0) [] w4 (wB.alloc (.cells #[.slice aS k cS] 99))) := ⟨.of_below ((hbA.trans (hbB.mono hbA.size)).trans (hbC.mono (hbA.trans (hbB.mono hbA.size)).size)), ⟨(hzA.later hbB).later hbC, Nat.le_refl _, ⟨by simp [flatV], .inl ⟨rfl, rfl⟩⟩, fun y hy => by cases hy⟩, hzB.later hbC, hzC⟩
    have HSB := Lib.hid hsB
    have HBC := Lib.hid ((hbA.trans (hbB.mono hbA.size)).trans (hbC.mono (hbA.trans (hbB.mono hbA.size)).size))
    clear hbA hzA hsA hbB hzB hbC hzC hsB
    go_wp2_with fail
    refine (backward_any k cS aS wB).mono ?_; rintro e w6 ⟨rfl, hw6⟩
    subst hw6
    generalize wB.alloc (.cells #[.slice aS k cS] 99) = w6 at *
    go_wp2
    have HI0 : Hid (∀ k' W', RkbI m l V ai W rb k cS aS fr tt xs w4 k' W' -> W'.cell? ⟨w4.heap.size + 2, 0, none⟩ = some (.slice aS k cS) /\ ∀ j, j < k -> ∃ b off, aS = some ⟨b, off, none⟩ /\ W'.cell? ⟨b, off + j, none⟩ = some (vs.getD j (.int .i64 0))) := fun k' W' h => by
     obtain ⟨t1, r1, tv, L, ys, -, -, -, -, -, -, -, hs⟩ := h
     refine ⟨by rw [hs.bs.cell]; rfl, fun j hj => ?_⟩
     obtain ⟨g, e1, -, e2⟩ := HLS.out.kc (hs.kp.kc ⟨_, HS4.out.rd.kept⟩) j (by rw [HVL.out]; exact hj)
     exact ⟨g, 0, e1, by rw [Nat.zero_add]; exact e2⟩
    have HMB : Hid (m < w4.heap.size) := by
     obtain ⟨es, hm, -⟩ := HS4.out.rd.kept
     exact hm.lt
    have HIP : Hid (∀ k' W' l' o o', RkbI m l V ai W rb k cS aS fr tt xs w4 k' W' -> w6.heap.size <= l' -> W'.heap[l']? = some o -> o.isCells = false -> RkbI m l V ai W rb k cS aS fr tt xs w4 k' (W'.putObj l' o')) := fun k' W' l' o o' h hl ho hc => by
     obtain ⟨t1, r1, tv, L, ys, q1, q2, q3, q4, q5, q6, q7, hs⟩ := h
     exact ⟨t1, r1, tv, L, ys, q1, q2, q3, q4, q5, q6, q7, hs.putObj (Nat.le_trans HBC.out.size hl) HMB.out ho hc⟩
    have HI6 : Hid (∀ o o', RkbI m l V ai W rb k cS aS fr tt xs w4 0 ((w6.alloc o).alloc o')) := fun o o' => by
     have hb := (Below.refl w6.heap.size w6).alloc (Nat.le_refl _) o
     have hb2 := hb.alloc hb.size o'
     exact ⟨tt, r, .slice none 0 0, [], xs, Nat.zero_le _, hft, Nat.le_refl _, hr1, rfl, HQ.out, by simp, HS6.out.later hb2⟩
    have HKD : Hid (∀ k' W', k' < k -> RkbI m l V ai W rb k cS aS fr tt xs w4 k' W' -> _) := fun k' W' hk' h => rkb_kid HFI.out.1 HFI.out.2 hn HE.out HV.out HWW.out ht (by omega) HS4.out hk' h
    have HCL : Hid (∀ k' W', RkbI m l V ai W rb k cS aS fr tt xs w4 k' W' -> W'.cell? ⟨w4.heap.size + 1, 0, none⟩ = some (.pointer (some ⟨w4.heap.size, 0, none⟩)) /\ W'.cell? ⟨w.heap.size, 0, none⟩ = some (.pointer (some ⟨ba, oa + i * 10, none⟩)) /\ W'.cell? ⟨ba, oa + i * 10 + 1, none⟩ = some (.int .i64 (ai : Int))) := fun k' W' h => by
     obtain ⟨t1, r1, tv, L, ys, -, -, -, -, -, -, -, hs⟩ := h
     have kc := hs.kp.kc ⟨_, HS4.out.rd.kept⟩
     obtain ⟨-, g1, -⟩ := HAT.out _ (kc.nrow HS4.out.rd.rd.row)
     rw [<- HAZ.out] at g1
     refine ⟨by rw [hs.bx.cell]; rfl, by rw [(kc.block _ HS4.out.box.lt _ _ HS4.out.box).cell]; rfl, g1⟩
    rw [HSB.out]
    refine (wpIn_wide (n := 3)).1 ?_
    refine range_known (gf := 78) (lb := #[.pointer (some ⟨w4.heap.size + 2, 0, none⟩)]) (N := k) (ag := bwA k vs) (I := RkbI m l V ai W rb k cS aS fr tt xs w4) rfl (enters_of Try.func78 (by kernel_rfl) rfl) (back_yields (w4.heap.size + 2) k cS aS vs _ (by omega) HI0.out) (fun _ => rfl) HIP.out HI6.out ?a1 ?assign ?body ?done
    case assign =>
     intro l' k' W' K' hk' hK'
     unfold bwA
     simp
     gi_wp2
     exact hK'
    case body =>
     intro l' k' W' hk' hI'
     have HI1 := Lib.hid hI'
     have HK1 := Lib.hid hk'
     clear hI' hk' HI0 HIP HI6 HLS HS6
     gi_wp2
     refine round_region_tail 6 (S := fun wx => RkbI m l V ai W rb k cS aS fr tt xs w4 k' wx /\ Below W'.heap.size W' wx) (hSt := fun _ _ h hb => ⟨h.1.later hb, h.2.trans (hb.mono h.2.size)⟩) (plan := [[(15, none)], [(6, none)], [(59, some 1)], [(60, some 2)], [(61, some 3)], [(17, none)]]) rfl rfl (by kernel_rfl) (by kernel_rfl) (by kernel_rfl) (by kernel_rfl) (by kernel_rfl) (by rintro ⟨a9, w9, h9⟩; exact absurd h9.1 (by simp)) ?hS ?_
     rotate_left
     iterate 6 first
      | (refine chain_skip (by rfl) (by rfl) ?_)
      | (apply chain_want (by rfl)
         ·intro act wx hS hr
          simp at hr
          obtain ⟨e1, e2, e3⟩ := HCL.out _ _ hS.1
          go_simp
          (try go_ints)
          first
           | exact Done.same
        )
     show ∀ w', _ -> _
     intro wz hz
     simp [Act.put]
     case hS => exact ⟨HI1.out, Below.refl _ _⟩
     have HKK := Lib.hid (HKD.out k' wz HK1.out hz.1)
     have HSZ := Lib.hid hz.2
     clear hz HI1 HKD HCL
     go_wp2_with fail
     refine HKK.out.mono ?_; rintro e W3 ⟨rfl, hk3, hi3⟩
     have HKF : Hid (KeepsFrom w6.heap.size W' W3) := ⟨Nat.le_trans HSZ.out.size hk3.size, fun k9 o9 hB ho hc => hk3.nc k9 o9 (by have := HMB.out; have := HBC.out.size; omega) ((HSZ.out.block k9 (Array.getElem?_eq_some_iff.1 ho).1).trans ho) (fun vs t e => by subst e; cases hc)⟩
     have HI3 := Lib.hid hi3
     clear hk3 hi3 HKK
     go_wp2
     exact ⟨HKF.out, HI3.out⟩
    case done =>
     intro W' hI' hK'
     obtain ⟨t1, r1, tv, L, ys, q1, q2, q3, q4, q5, q6, q7, hs⟩ := hI'
     rw [Nat.sub_self] at q6
     obtain ⟨hys, -⟩ := rp_ends q2 (by omega) q6
     have hxs : xs = (L.map (·.v)).reverse := by rw [q7, hys]; rfl
     have d1 := hs.bx.cell 0
     simp at d1
     have HI := Lib.hid (cinOrder_any (l := l) (V := V) (m := m) (L := L) (by omega) W' hs.wk hs.kp.size HMB.out)
     have HSS := Lib.hid hs
     have HXS := Lib.hid hxs
     have HKD' := Lib.hid hK'
     clear hs hxs hys hK' q7 q6 HKD HCL HI0 HIP HI6 HLS HS6
     go_wp2_with fail
     refine HI.out.mono ?_; rintro e w9 ⟨v9, rfl, j1, j2⟩
     have hK9 : w9.heap[w6.heap.size]? = some (.deferred (some [])) := j2.nc w6.heap.size _ (by have := HMB.out; have := HBC.out.size; omega) HKD'.out (fun vs t e => by cases e)
     have HP : Hid (KsP m l V xs w (.returned v9) (w9.putObj w6.heap.size (.deferred none))) := by
      have k1 : Rk m l V w.heap.size [] w w4 := (Rk.of_below HB1.out).call HB1.out.size HS4.out.rk
      have k2 : Rk m l V w.heap.size [] w w9 := k1.call k1.size (HSS.out.kp.then j2)
      have hmw : m < w.heap.size := by
       obtain ⟨es, hm, -⟩ := HR0.out.kept
       exact hm.lt
      refine ⟨v9, rfl, ?_, k2.putObj (Nat.le_trans k1.size HBC.out.size) (Nat.le_trans k1.size HBC.out.size) hmw hK9 rfl⟩
      rw [HXS.out]
      obtain ⟨A9, c9, k4, k5, k6⟩ := j1
      exact ⟨A9, c9, k4, k5, (k6.mono fun b _ hb => Nat.le_trans k1.size hb).kc (Kc.putObj hK9 rfl)⟩
     obtain ⟨A9, c9, hv9, -⟩ := j1
     rw [List.length_reverse, List.length_map, q5] at hv9
     subst hv9
     have HK9 := Lib.hid hK9
     clear j2 HI hK9
     go_wp2
     refine ⟨by simp, .inl ⟨_, _, rfl, run_takeDeferred HK9.out, ?_⟩⟩
     refine ⟨_, results_tmp rfl _ _ _, ?_⟩
     exact HP.out
   ·have hcz : ¬ (r : Int) < (wy : Int) := by omega
    have hsz : (r : Int) - (wy : Int) = ((r - wy : Nat) : Int) := by omega
    have HSX := HS4
    have HCX := Lib.hid (HGO.out hcmp).2
    clear HGO HBR HS4
    have HNE := Lib.hid (RpC.some HFI.out.1 HFI.out.2 hft ht (Nat.le_succ k) HCX.out).1
    have hb6 := (Below.refl w4.heap.size w4).alloc (Nat.le_refl _) (.cells #[.slice A2 n2 c2] 78)
    have HX6 := Lib.hid (Blk.new w4 #[.slice A2 n2 c2] 78)
    have HS6 := Lib.hid (HSX.out.later hb6)
    have HVB : Hid (vs.length < 1073741000) := by unfold Hid; rw [HVL.out]; omega
    clear hb6 HSX
    go_upto_region 10 with (at_builtin; refine wpList_plain rfl fun K hK => ?_; refine wp_append_ls _ _ rfl w1.heap.size _ vs rfl HS6.out.own w4.heap.size A2 n2 c2 rfl HX6.out HVB.out HS6.out.rk.size ?_; intro v' w7 h1 h2; have HS7 := Lib.hid (HS6.out.grow HR1.out rfl h1 h2); have d0 := HS7.out.box.cell 0; simp at d0; obtain ⟨-, g1, -⟩ := HAT.out _ HS7.out.rd.rd.row; rw [<- HAZ.out] at g1; refine hK _ _ ?_; clear h1 h2 hK K)
    go_wp2_with fail
    have HMO := Lib.hid (cmore_any HE.out rb u W (nowV l ai W fr k) (.slice A2 n2 c2) w7 HS7.out.rd HWW.out hn (fun b => nowV_le) HS7.out.cur HNE.out)
    rw [rp_more HFI.out.1 HFI.out.2] at HMO
    refine HMO.out.mono ?_; rintro e w9 ⟨v9, rfl, hi9, hk9, -⟩
    have HS9 := Lib.hid (HS7.out.next hi9 hk9)
    obtain ⟨A9, c9, rfl, -, -⟩ := hi9
    clear hk9 HMO HS7 HX6 HS6 HVB
    generalize (plF (W.length + 1) (nowV l ai W fr (k + 1))).length = n9 at HS9 ⊢
    go_wp2
    go_roundw
    case rel => exact ⟨k + 1, (r - wy), _, by have := (RpC.some HFI.out.1 HFI.out.2 hft ht (Nat.le_refl _) HCX.out).2; omega, by omega, rfl, by go_num, HCX.out, HS9.out⟩
    case measure => have := (RpC.some HFI.out.1 HFI.out.2 hft ht (Nat.le_refl _) HCX.out).2; simp [intOf] <;> omega
end Go.Proofs.Ytpbbokdmoaadfaa
namespace Go.Proofs.Ytpbbokdmoaadfaa
set_option maxHeartbeats 64000000
set_option maxRecDepth 1000000
set_option linter.all false
open Go Go.RowKit
theorem repA_any {l : List Nd} {V : Wd} (hF : Form l) (hn : V.length <= 900) : RepA l V := fun c m ba oa i hi h7 hE hV => crepKids_any hF hi h7 hn hE hV
theorem cvalues_any {A : Option Addr} {l : List Nd} {c : Nat} {u : Value} {W : Wd} (hF : Form l) (hl : l.length <= 4096) (hT : ∀ n ∈ l, n.text.length <= 1073741824) (hn : W.length <= 900) (w : World) (hrow : NRow w A l) (hw : IsW W u w) :
 Calls Try.prog 16 #[.agg #[.slice A l.length c], u] w (VusP w ((EN l (l.length - 1) W).take 2)) := cValues_any (repA_any hF hn) hF hl hT hn w hrow hw
end Go.Proofs.Ytpbbokdmoaadfaa
