/- The statement NextReads of layer 15, walked. -/
import Derived.Test.YtidoofdofdhjpaaM41
namespace Go.Proofs.Ytidoofdofdhjpaa
open Go Go.RowKit
set_option linter.unusedVariables false
set_option linter.unusedSimpArgs false
set_option maxRecDepth 1000000
set_option maxHeartbeats 64000000
def NrdO (w0 : World) (A : Option Addr) (l : List Nd) (c : Nat) (Aw : Option Addr) (cw : Nat) (W : Wd) (v i : Value) (w : World) : Prop :=
 ∃ j : Nat, j <= W.length /\ i = .int .i64 (j : Int) /\ BrV (wdB l (W.take j) [(stL l, 1)]) v w /\ NwdS w0 A l c Aw cw W (fun _ => True) w
def NrdM (w0 : World) (A : Option Addr) (l : List Nd) (c : Nat) (Aw : Option Addr) (cw : Nat) (W : Wd) (u : UInt8) (P : World -> Prop) (D : List HdE) (v i : Value) (w : World) : Prop :=
 ∃ k : Nat, k <= D.length /\ i = .int .i64 (k : Int) /\ BrV (nxB l u ((D.take k).map brS)) v w /\ NwdS w0 A l c Aw cw W P w
def NrdI (w0 : World) (A : Option Addr) (l : List Nd) (c : Nat) (Aw : Option Addr) (cw : Nat) (W : Wd) (P : World -> Prop) (F : Brs) (m : Nat) (G : List HdE) (v i : Value) (w : World) : Prop :=
 ∃ k : Nat, k <= G.length /\ i = .int .i64 (k : Int) /\ BrV (fldK F m ((G.take k).map brS)) v w /\ NwdS w0 A l c Aw cw W P w
def NrdE (w0 : World) (A : Option Addr) (l : List Nd) (c : Nat) (Aw : Option Addr) (cw : Nat) (W : Wd) (P : World -> Prop) (D : List HdE) (n i : Value) (w : World) : Prop :=
 ∃ k : Nat, k <= D.length /\ i = .int .i64 (k : Int) /\ n = .int .i64 ((enB l ((D.take k).map brS) : Nat) : Int) /\ NwdS w0 A l c Aw cw W P w
theorem nextreads_walk (l : List Nd) (A : Option Addr) (c : Nat) (W : Wd) (Aw : Option Addr) (cw : Nat) (hc1 : l.length <= c) (hl : l.length <= 9223372036854775807) (htx : Txt l) (hwl : W.length <= 9223372036854775807) (w : World) (hrow : NRow w A l) (hwd : WdA w Aw cw W) :
 Calls Try.prog 6 #[.agg #[.slice A l.length c], .slice Aw W.length cw] w (Ans w (.bool true)) := by
 have HS := Lib.hid (NwdS.new c hrow hwd)
 have HAW := Lib.hid (fun w => awake15_any w)
 have HTX := Lib.hid htx
 have hn9 : (W.length : Int) <= 9223372036854775807 := by omega
 clear hrow htx hwd
 go_enter Try.func6, Try.ntmps6
 go_upto_region 1 with (fail)
 generalize w.alloc (.cells #[.slice A l.length c] 24) = w1 at HS ⊢
 have e0 := HS.out.box.cell 0
 simp at e0
 go_wp2_with fail
 refine ((HAW.out _)).mono ?_; rintro e w2 ⟨rfl, hb⟩
 have HS2 := Lib.hid (HS.out.later hb)
 clear hb e0 HS
 have HS := HS2
 clear HS2
 have e0 := HS.out.box.cell 0
 simp at e0
 have HF := Lib.hid (few_any l A c hl HTX.out _ HS.out.row)
 cases hf : fewB l with
 | false =>
  rw [hf] at HF
  clear hf
  go_wp2_with fail
  refine ((HF.out)).mono ?_; rintro e w2 ⟨rfl, hb⟩
  have HS2 := Lib.hid (HS.out.later hb)
  clear hb e0 HS
  have HS := HS2
  clear HS2
  have e0 := HS.out.box.cell 0
  simp at e0
  go_wp2_with fail
  refine ((HAW.out _)).mono ?_; rintro e w2 ⟨rfl, hb⟩
  have HS2 := Lib.hid (HS.out.later hb)
  clear hb e0 HS
  have HS := HS2
  clear HS2
  have e0 := HS.out.box.cell 0
  simp at e0
  go_wp2
  go_ret
  exact ⟨rfl, HS.out.bel⟩
 | true =>
  rw [hf] at HF
  have HFT := Lib.hid (few_txt hf)
  clear hf
  go_wp2_with fail
  refine ((HF.out)).mono ?_; rintro e w2 ⟨rfl, hb⟩
  have HS2 := Lib.hid (HS.out.later hb)
  clear hb e0 HS
  have HS := HS2
  clear HS2
  have e0 := HS.out.box.cell 0
  simp at e0
  clear HF
  have HF := Lib.hid (fun w => rft12_any A Aw l.length c W.length cw w hl hwl)
  cases hf : ftB l.length W.length with
  | false =>
   rw [hf] at HF
   clear hf
   go_wp2_with fail
   refine ((HF.out _)).mono ?_; rintro e w2 ⟨rfl, hb⟩
   have HS2 := Lib.hid (HS.out.later hb)
   clear hb e0 HS
   have HS := HS2
   clear HS2
   have e0 := HS.out.box.cell 0
   simp at e0
   go_wp2_with fail
   refine ((HAW.out _)).mono ?_; rintro e w2 ⟨rfl, hb⟩
   have HS2 := Lib.hid (HS.out.later hb)
   clear hb e0 HS
   have HS := HS2
   clear HS2
   have e0 := HS.out.box.cell 0
   simp at e0
   go_wp2
   go_ret
   exact ⟨rfl, HS.out.bel⟩
  | true =>
   rw [hf] at HF
   obtain ⟨hl16, hw8⟩ := ft_iff.1 hf
   clear hf
   go_wp2_with fail
   refine ((HF.out _)).mono ?_; rintro e w2 ⟨rfl, hb⟩
   have HS2 := Lib.hid (HS.out.later hb)
   clear hb e0 HS
   have HS := HS2
   clear HS2
   have e0 := HS.out.box.cell 0
   simp at e0
   clear HF
   have HF := Lib.hid (rright_any l A c hc1 (by omega) HTX.out _ HS.out.row)
   cases hf : rgB l with
   | false =>
    rw [hf] at HF
    clear hf
    go_wp2_with fail
    refine ((HF.out)).mono ?_; rintro e w2 ⟨rfl, hb⟩
    have HS2 := Lib.hid (HS.out.later hb)
    clear hb e0 HS
    have HS := HS2
    clear HS2
    have e0 := HS.out.box.cell 0
    simp at e0
    go_wp2_with fail
    refine ((HAW.out _)).mono ?_; rintro e w2 ⟨rfl, hb⟩
    have HS2 := Lib.hid (HS.out.later hb)
    clear hb e0 HS
    have HS := HS2
    clear HS2
    have e0 := HS.out.box.cell 0
    simp at e0
    go_wp2
    go_ret
    exact ⟨rfl, HS.out.bel⟩
   | true =>
    rw [hf] at HF
    have HR := Lib.hid ((rgB_iff l).1 hf)
    have HPOS : Hid (0 < l.length) := HR.out.1.1
    have HLN := Lib.hid hl16
    have HW8 := Lib.hid hw8
    clear hf
    go_wp2_with fail
    refine ((HF.out)).mono ?_; rintro e w2 ⟨rfl, hb⟩
    have HS2 := Lib.hid (HS.out.later hb)
    clear hb e0 HS
    have HS := HS2
    clear HS2
    have e0 := HS.out.box.cell 0
    simp at e0
    clear HF
    go_upto_region 3 with (fail)
    have HST := Lib.hid (fun w' => start15_any l A c (by omega) w')
    go_wp2_with fail
    refine (HST.out _).mono ?_; rintro e w3 ⟨v, rfl, ⟨BS, cs, rfl, hcs, hrs⟩, hb⟩
    have hb4 := (Below.refl w3.heap.size w3).alloc (Nat.le_refl _) (.cells (brC ⟨stL l, BS, cs, 1⟩) 41)
    have HS4 := Lib.hid ((HS.out.later hb).later hb4)
    have HB4 : Hid (BrV [(stL l, 1)] (.slice (some ⟨w3.heap.size, 0, none⟩) 1 1) (w3.alloc (.cells (brC ⟨stL l, BS, cs, 1⟩) 41))) := by
     refine ⟨_, 1, [⟨stL l, BS, cs, 1⟩], rfl, rfl, fun i hi => ?_, fun d hd => ?_, fun d hd => ?_⟩
     ·have hi : i < 1 := hi
      obtain rfl : i = 0 := by omega
      have hbk := Blk.new w3 (brC ⟨stL l, BS, cs, 1⟩) 41
      exact ⟨_, 0, rfl, hbk.lt, fun j hj => by rw [hbk.cell]; simp⟩
     ·rw [List.mem_singleton.1 hd]; exact ⟨hcs, by unfold stL; simp⟩
     ·rw [List.mem_singleton.1 hd]; exact hrs.later hb4
    clear hb hb4 hrs HS HST e0
    unfold brC at HS4 HB4
    have hlz : (l.length : Int) <= 16 := by omega
    go_upto_region 4 with (fail)
    generalize w3.alloc (.cells #[.slice BS (stL l).length cs, .int .i64 ((1 : Nat) : Int)] 41) = w4 at *
    have HO0 : Hid (NrdO w A l c Aw cw W (.slice (some ⟨w3.heap.size, 0, none⟩) 1 1) (.int .i64 0) w4) := ⟨0, Nat.zero_le _, rfl, HB4.out, HS4.out⟩
    clear HB4 HS4
    go_wp2
    go_loopw [5, 6] (NrdO w A l c Aw cw W) (fun _ i _ => W.length - (intOf i).toNat)
    case atStart => exact HO0.out
    case round =>
     obtain ⟨i, hi, rfl, ⟨AL, kL, D, rfl, hD⟩, hh⟩ := hrel
     have HOK : Hid (OkB l (W.take i) (D.map brS)) := by
      unfold Hid; rw [hD.brs]
      have := ok_wd HR.out (W.take i) [] (ok_start HPOS.out)
      rwa [List.nil_append] at this
     have HDL : Hid (D.length <= 600000000) := by
      have := HOK.out.few HR.out.1 (by omega) (by rw [List.length_take]; omega)
      rw [List.length_map] at this; exact this
     have hdz : (D.length : Int) <= 600000000 := by have := HDL.out; omega
     have HBR : Hid (D.map brS = wdB l (W.take i) [(stL l, 1)]) := hD.brs
     have HCP := Lib.hid hD.cap
     have HS := Lib.hid (hh.put (Q := fun w => BrA (wdB l (W.take i) [(stL l, 1)]) AL D w) hD (fun _ _ h hb => h.later hb))
     clear hD hh HO0
     by_cases hlt : i < W.length
     ·have hz : (i : Int) < (W.length : Int) := by omega
      have HLT := Lib.hid hlt
      obtain ⟨bw, ow, rfl, hbw, -⟩ := (HS.out.wd HW8.out).byte hlt
      have HBY : Hid (∀ w', NwdS w A l c (some ⟨bw, ow, none⟩) cw W (fun w => BrA (wdB l (W.take i) [(stL l, 1)]) AL D w) w' -> w'.cell? ⟨bw, ow + i, none⟩ = some (.int .u8 (((W.getD i 0).toNat : Nat) : Int))) := fun w' h => by
       obtain ⟨b, o, e, -, h2⟩ := (h.wd HW8.out).byte hlt
       cases e; exact h2
      have HWS : Hid (wdB l (W.take (i + 1)) [(stL l, 1)] = nxB l (W.getD i 0) (D.map brS)) := by unfold Hid; rw [wd_step hlt, HBR.out]
      clear hlt hi hbw
      generalize W.getD i 0 = u at *
      generalize wdB l (W.take i) [(stL l, 1)] = TL at *
      have HM0 : Hid (NrdM w A l c (some ⟨bw, ow, none⟩) cw W u (fun w => BrA TL AL D w) D (.slice none 0 0) (.int .i64 0) wr) := ⟨0, Nat.zero_le _, rfl, brv_nil _, HS.out⟩
      clear HS
      go_wp2
      go_loopw [7, 8] (NrdM w A l c (some ⟨bw, ow, none⟩) cw W u (fun w => BrA TL AL D w) D) (fun _ i _ => D.length - (intOf i).toNat)
      case atStart => exact HM0.out
      case round =>
       obtain ⟨k, hk, rfl, ⟨AV, kv, DV, rfl, hDV⟩, hh⟩ := hrel
       have HS := Lib.hid hh
       have HV := Lib.hid hDV
       clear hh hDV HM0
       by_cases hlk : k < D.length
       ·have hkz : (k : Int) < (D.length : Int) := by omega
        have HLK := Lib.hid hlk
        have HNS := Lib.hid (nx_step (l := l) (c := u) hlk)
        have HDG := Lib.hid (hd_here hlk)
        have HDM := Lib.hid (hd_mem hlk)
        obtain ⟨⟨hm1, hm2⟩, hcd⟩ := HOK.out.at (hd_mem hlk)
        have hcl := cds_len hcd
        have HOF : Hid (OkB l (W.take i ++ [u]) (nxB l u ((D.take k).map brS))) := ok_nx HR.out HOK.out k
        have HOG : Hid (OkB l (W.take i ++ [u]) (brsL (onL l (D.getD k hd0).s u))) := ok_on HR.out hcd
        have HGF : Hid ((brsL (onL l (D.getD k hd0).s u)).length <= 5000) := on_few HR.out hcd.1 (by have := HLN.out; omega) (by have := HLN.out; omega) u
        have HOC : Hid (∀ w', NRow w' A l -> ItRow w' (D.getD k hd0).A (D.getD k hd0).s -> Calls Try.prog 14 #[.agg #[.slice A l.length c], .slice (D.getD k hd0).A (D.getD k hd0).s.length (D.getD k hd0).cap, .int .u8 (u.toNat : Int)] w' (fun e w'' => ∃ v, e = .returned v /\ BrV (brsL (onL l (D.getD k hd0).s u)) v w'' /\ Below w'.heap.size w' w'')) := fun w' h1 h2 => on_call HR.out (by have := HLN.out; omega) HTX.out u hcd.1 (by have := HLN.out; omega) h1 h2
        have HUL : Hid ((W.take i ++ [u]).length <= 9) := by
         unfold Hid; rw [List.length_append, List.length_take, List.length_singleton]; have := HW8.out; omega
        obtain ⟨bl, ol, rfl, -, -⟩ := HS.out.p.row k hlk
        clear hlk hk hcd hcl
        generalize D.getD k hd0 = d at *
        generalize brsL (onL l d.s u) = TG at *
        generalize nxB l u ((D.take k).map brS) = F at *
        generalize W.take i ++ [u] = uu at *
        have HSV := Lib.hid (HS.out.add (Q := fun w => BrA F AV DV w) HV.out (fun _ _ h hb => h.later hb))
        clear HS HV
        go_upto_region 11 with (fail)
        refine wp_region_stable (S := (NwdS w A l c (some ⟨bw, ow, none⟩) cw W (fun w => BrA TL (some ⟨bl, ol, none⟩) D w /\ BrA F AV DV w))) (hSt := fun _ _ h hb => h.later hb) (plan := [[(2, none)], [(5, none)], [(8, none)], [(49, some 1), (50, some 2)], [(51, some 3)], [(52, some 4)], [(1, none)], [(6, none)], [(54, some 6), (55, some 7)], [(56, some 8)], [(48, some 0), (53, some 5), (57, some 9)], [(58, some 10)]]) (by kernel_rfl) (by kernel_rfl) (by kernel_rfl) ?hS ?_
        rotate_left
        iterate 10 first
         | (refine chain_skip (by rfl) (by rfl) ?_)
         | (apply chain_want (by rfl)
            ·intro act wx hS hr
             simp at hr
             have e0 := hS.box.cell 0
             simp at e0
             obtain ⟨x0, x1⟩ := br_cell hS.p.1.row k d HDG.out
             have by0 := HBY.out _ (hS.put hS.p.1 (fun _ _ h hb => h.later hb))
             go_simp
             (try go_ints)
             first
              | exact Done.same
           )
        (refine chain_rel (BrV TG) (BrV.later TG) (by rfl) ?_ ?_
         ·intro act wx hS hr
          simp at hr
          have e0 := hS.box.cell 0
          simp at e0
          obtain ⟨x0, x1⟩ := br_cell hS.p.1.row k d HDG.out
          have by0 := HBY.out _ (hS.put hS.p.1 (fun _ _ h hb => h.later hb))
          all_goals go_simp
          with_reducible refine Calls.mono (HOC.out _ hS.row (hS.p.1.its _ HDM.out)) ?_
          rintro e w' ⟨v, rfl, hv, hb⟩
          exact Done.rel hb hv
        )
        (refine chain_rel (BrV TG) (BrV.later TG) (by rfl) ?_ ?_
         ·intro act wx hS hr
          simp at hr
          have e0 := hS.box.cell 0
          simp at e0
          obtain ⟨x0, x1⟩ := br_cell hS.p.1.row k d HDG.out
          have by0 := HBY.out _ (hS.put hS.p.1 (fun _ _ h hb => h.later hb))
          obtain ⟨u3, hr3, hv3⟩ := hr
          all_goals go_simp
          exact Done.rel (Below.refl _ _) hv3
        )
        show ∀ w', _ -> _
        intro wz hz
        simp [Act.put]
        case hS => exact HSV.out
        intro _ _ v11 hv11
        obtain ⟨AG, kg, G, rfl, hG⟩ := hv11
        have HV := Lib.hid hz.p.2
        have HGB : Hid (G.map brS = TG) := hG.brs
        have HGC := Lib.hid hG.cap
        have HGL : Hid (G.length <= 5000) := by
         have h1 := congrArg List.length hG.brs
         rw [List.length_map] at h1
         have := HGF.out; unfold Hid; omega
        have HS := Lib.hid (hz.put (Q := fun w => BrA TL (some ⟨bl, ol, none⟩) D w /\ BrA TG AG G w) ⟨hz.p.1, hG⟩ (fun _ _ h hb => ⟨h.1.later hb, h.2.later hb⟩))
        rw [<- HGB.out] at HOG HNS
        clear hz hG HSV HOC HGF
        have hdgz : (G.length : Int) <= 5000 := by have := HGL.out; omega
        have HI0 : Hid (NrdI w A l c (some ⟨bw, ow, none⟩) cw W (fun w => BrA TL (some ⟨bl, ol, none⟩) D w /\ BrA TG AG G w) F d.many G (.slice AV DV.length kv) (.int .i64 0) wz) := ⟨0, Nat.zero_le _, rfl, ⟨AV, kv, DV, rfl, HV.out⟩, HS.out⟩
        clear HV HS
        go_wp2
        go_loopw [7, 10] (NrdI w A l c (some ⟨bw, ow, none⟩) cw W (fun w => BrA TL (some ⟨bl, ol, none⟩) D w /\ BrA TG AG G w) F d.many G) (fun _ i _ => G.length - (intOf i).toNat)
        case atStart => exact HI0.out
        case round =>
         obtain ⟨j, hj, rfl, ⟨AC, kc, DC, rfl, hDC⟩, hh⟩ := hrel
         have HS := Lib.hid hh
         clear hh HI0
         by_cases hlj : j < G.length
         ·have hjz : (j : Int) < (G.length : Int) := by omega
          have HLJ := Lib.hid hlj
          have HSK := Lib.hid (fldK_step (F := F) (m := d.many) hlj)
          have HGH := Lib.hid (hd_here hlj)
          have HGM := Lib.hid (hd_mem hlj)
          obtain ⟨hg1, hg2⟩ := HGC.out _ (hd_mem hlj)
          obtain ⟨⟨hg3, hg4⟩, -⟩ := HOG.out.at (hd_mem hlj)
          have hok := ok_fld hm1 HOF.out HOG.out j
          have HCL : Hid (DC.length <= 600000000) := by
           have h1 := congrArg List.length hDC.brs
           rw [List.length_map] at h1
           have := hok.few HR.out.1 (by have := HLN.out; omega) HUL.out
           unfold Hid; omega
          obtain ⟨bg, og, rfl, -, -⟩ := HS.out.p.2.row j hlj
          have HSC := Lib.hid (HS.out.add (Q := fun w => BrA (fldK F d.many ((G.take j).map brS)) AC DC w) hDC (fun _ _ h hb => h.later hb))
          have HOKC := Lib.hid hok
          clear hok hDC HS hlj hj
          generalize G.getD j hd0 = g at *
          generalize fldK F d.many ((G.take j).map brS) = TC at *
          obtain ⟨p, hp⟩ : ∃ p, d.many * g.many = p := ⟨_, rfl⟩
          have hp4 : p <= 4 := by rw [<- hp]; exact Nat.mul_le_mul hm2 hg4
          have hp1 : 1 <= p := by rw [<- hp]; exact Nat.mul_le_mul hm1 hg3
          have hpz : (d.many : Int) * (g.many : Int) = (p : Int) := by rw [<- hp]; exact (Int.natCast_mul _ _).symm
          rw [hp] at HSK
          obtain ⟨q, hq⟩ : ∃ q, min 2 p = q := ⟨_, rfl⟩
          have hqz : min (2 : Int) (p : Int) = (q : Int) := by omega
          rw [hq] at HSK
          have HAD : Hid (∀ w', BrA TC AC DC w' -> ItRow w' g.A g.s -> Calls Try.prog 23 #[.slice AC DC.length kc, .slice g.A g.s.length g.cap, .int .i64 (q : Int)] w' (AddO (addB TC g.s q) w')) := fun w' h1 h2 => radd14_any TC AC DC kc g.s g.A g.cap q HOKC.out.srt HOKC.out.pos (by have := HCL.out; omega) (by omega) (by omega) hg1 hg2 w' h1 h2
          clear hg1 hg2 hg3 hg4 hp hq
          go_upto_region 15 with (fail)
          refine wp_region_stable (S := (NwdS w A l c (some ⟨bw, ow, none⟩) cw W (fun w => (BrA TL (some ⟨bl, ol, none⟩) D w /\ BrA TG (some ⟨bg, og, none⟩) G w) /\ BrA TC AC DC w))) (hSt := fun _ _ h hb => h.later hb) (plan := [[(7, none)], [(9, none)], [(10, none)], [(66, some 1), (67, some 2)], [(68, some 3)], [(69, some 4)], [(5, none)], [(8, none)], [(71, some 6), (72, some 7)], [(73, some 8)], [(74, some 9)], [(9, none)], [(10, none)], [(76, some 11), (77, some 12)], [(78, some 13)], [(79, some 14)], [(75, some 10), (80, some 15)], [(81, some 16)], [(65, some 0), (70, some 5), (82, some 17)], [(83, some 18)]]) (by kernel_rfl) (by kernel_rfl) (by kernel_rfl) ?hS ?_
          rotate_left
          iterate 18 first
           | (refine chain_skip (by rfl) (by rfl) ?_)
           | (apply chain_want (by rfl)
              ·intro act wx hS hr
               simp at hr
               obtain ⟨x0, x1⟩ := br_cell hS.p.1.1.row k d HDG.out
               obtain ⟨y0, y1⟩ := br_cell hS.p.1.2.row j g HGH.out
               go_simp
               (try go_ints)
               first
                | exact Done.same
             )
          (refine chain_rel (BrV (addB TC g.s q)) (BrV.later (addB TC g.s q)) (by rfl) ?_ ?_
           ·intro act wx hS hr
            simp at hr
            obtain ⟨x0, x1⟩ := br_cell hS.p.1.1.row k d HDG.out
            obtain ⟨y0, y1⟩ := br_cell hS.p.1.2.row j g HGH.out
            all_goals go_simp
            with_reducible refine Calls.mono (HAD.out _ hS.p.2 (hS.p.1.2.its _ HGM.out)) ?_
            rintro e w' ⟨v, rfl, hv, hb⟩
            exact Done.rel hb hv
          )
          (refine chain_rel (BrV (addB TC g.s q)) (BrV.later (addB TC g.s q)) (by rfl) ?_ ?_
           ·intro act wx hS hr
            simp at hr
            obtain ⟨x0, x1⟩ := br_cell hS.p.1.1.row k d HDG.out
            obtain ⟨y0, y1⟩ := br_cell hS.p.1.2.row j g HGH.out
            obtain ⟨u3, hr3, hv3⟩ := hr
            all_goals go_simp
            exact Done.rel (Below.refl _ _) hv3
          )
          show ∀ w', _ -> _
          intro wz hz
          simp [Act.put]
          case hS => exact HSC.out
          intro _ _ v19 hv19
          have HSN := Lib.hid (hz.put (Q := fun w => BrA TL (some ⟨bl, ol, none⟩) D w /\ BrA TG (some ⟨bg, og, none⟩) G w) hz.p.1 (fun _ _ h hb => ⟨h.1.later hb, h.2.later hb⟩))
          have HVN : Hid (BrV (fldK F d.many ((G.take (j + 1)).map brS)) v19 wz) := by rw [HSK.out]; exact hv19
          clear hz hv19 HSC HAD hpz hqz hp4 hp1
          go_wp2
          go_roundw
          case rel => exact ⟨j + 1, HLJ.out, by go_num, HVN.out, HSN.out⟩
          case measure => have := HLJ.out; simp [intOf] <;> omega
         ·obtain rfl : j = G.length := by omega
          have hjz : ¬ ((G.length : Nat) : Int) < (G.length : Int) := by omega
          have HVN : Hid (BrV (nxB l u ((D.take (k + 1)).map brS)) (.slice AC DC.length kc) wr) := by
           have h1 := hDC
           rw [show G.take G.length = G from List.take_length] at h1
           rw [HNS.out]
           exact ⟨AC, kc, DC, rfl, h1⟩
          have HSN := Lib.hid (HS.out.put (Q := fun w => BrA TL (some ⟨bl, ol, none⟩) D w) HS.out.p.1 (fun _ _ h hb => h.later hb))
          clear hDC HS hlj hj
          go_wp2
          go_roundw
          case rel => exact ⟨k + 1, HLK.out, by go_num, HVN.out, HSN.out⟩
          case measure => have := HLK.out; simp [intOf] <;> omega
       ·obtain rfl : k = D.length := by omega
        have hkz : ¬ ((D.length : Nat) : Int) < (D.length : Int) := by omega
        have HVN : Hid (BrV (wdB l (W.take (i + 1)) [(stL l, 1)]) (.slice AV DV.length kv) wr) := by
         have h1 := HV.out
         rw [show D.take D.length = D from List.take_length] at h1
         rw [HWS.out]
         exact ⟨AV, kv, DV, rfl, h1⟩
        have HSN := Lib.hid (HS.out.put (Q := fun _ => True) trivial (fun _ _ _ _ => trivial))
        clear HS HV hlk hk
        go_wp2
        go_roundw
        case rel => exact ⟨i + 1, HLT.out, by go_num, HVN.out, HSN.out⟩
        case measure => have := HLT.out; simp [intOf] <;> omega
     ·obtain rfl : i = W.length := by omega
      have hz : ¬ ((W.length : Nat) : Int) < (W.length : Int) := by omega
      have HEN : Hid (enB l (D.map brS) = rowV l (l.length - 1) W 0 W.length) := by
       unfold Hid
       rw [HBR.out, List.take_length, en_start HR.out, ways_min]
      have HW : Hid (∀ w', NRow w' A l -> IsW W (.slice Aw W.length cw) w' -> Calls Try.prog 24 #[.agg #[.slice A l.length c], .slice Aw W.length cw] w' (Ans w' (.int .i64 ((rowV l (l.length - 1) W 0 W.length : Nat) : Int)))) := fun w' h1 h2 => rways12_any HR.out.1 (fun n hn => by have := HFT.out.2 n hn; omega) (by have := HLN.out; omega) (.slice Aw W.length cw) W w' h1 h2 (by have := HW8.out; omega)
      have HE0 : Hid (NrdE w A l c Aw cw W (fun w => BrA (wdB l (W.take W.length) [(stL l, 1)]) AL D w) D (.int .i64 0) (.int .i64 0) wr) := ⟨0, Nat.zero_le _, rfl, rfl, HS.out⟩
      clear hlt hi HS
      go_wp2
      go_loopw [11, 12] (NrdE w A l c Aw cw W (fun w => BrA (wdB l (W.take W.length) [(stL l, 1)]) AL D w) D) (fun _ i _ => D.length - (intOf i).toNat)
      case atStart => exact HE0.out
      case round =>
       obtain ⟨k, hk, rfl, rfl, hh⟩ := hrel
       have HS := Lib.hid hh
       clear hh HE0
       by_cases hlk : k < D.length
       ·have hkz : (k : Int) < (D.length : Int) := by omega
        have HLK := Lib.hid hlk
        have HST := Lib.hid (en_step (l := l) hlk)
        have HDG := Lib.hid (hd_here hlk)
        have HDM := Lib.hid (hd_mem hlk)
        obtain ⟨⟨hm1, hm2⟩, hcd⟩ := HOK.out.at (hd_mem hlk)
        have hcl := cds_len hcd
        have he2 : mnyB (hdsL l (D.getD k hd0).s) [] <= 2 := mny_two (hds_pos l _) []
        have hn2 : enB l ((D.take k).map brS) <= 2 := en_two _ 0 (by omega)
        have HEC : Hid (∀ w', NRow w' A l -> ItRow w' (D.getD k hd0).A (D.getD k hd0).s -> Calls Try.prog 22 #[.agg #[.slice A l.length c], .slice (D.getD k hd0).A (D.getD k hd0).s.length (D.getD k hd0).cap] w' (Ans w' (.int .i64 ((mnyB (hdsL l (D.getD k hd0).s) [] : Nat) : Int)))) := fun w' h1 h2 => nxEnds_any l A c (D.getD k hd0).s (D.getD k hd0).A (D.getD k hd0).cap HR.out (by have := HLN.out; omega) HTX.out hcd.1 (by have := HLN.out; omega) w' h1 h2
        obtain ⟨bl, ol, rfl, -, -⟩ := HS.out.p.row k hlk
        clear hlk hk hcd hcl
        generalize D.getD k hd0 = d at *
        generalize mnyB (hdsL l d.s) [] = e at *
        generalize enB l ((D.take k).map brS) = n at *
        obtain ⟨p, hp⟩ : ∃ p, d.many * e = p := ⟨_, rfl⟩
        have hp4 : p <= 4 := by rw [<- hp]; exact Nat.mul_le_mul hm2 he2
        have hpz : (d.many : Int) * (e : Int) = (p : Int) := by rw [<- hp]; exact (Int.natCast_mul _ _).symm
        rw [hp] at HST
        obtain ⟨q, hq⟩ : ∃ q, min 2 (n + p) = q := ⟨_, rfl⟩
        have hqz : min (2 : Int) ((n : Int) + (p : Int)) = (q : Int) := by omega
        rw [hq] at HST
        clear hp hq hm1 hm2 he2
        go_upto_region 21 with (fail)
        refine wp_region_stable (S := (NwdS w A l c Aw cw W (fun w => BrA (wdB l (W.take W.length) [(stL l, 1)]) (some ⟨bl, ol, none⟩) D w))) (hSt := fun _ _ h hb => h.later hb) (plan := [[(11, none)], [(5, none)], [(12, none)], [(92, some 1), (93, some 2)], [(94, some 3)], [(95, some 4)], [(2, none)], [(5, none)], [(12, none)], [(98, some 7), (99, some 8)], [(100, some 9)], [(101, some 10)], [(97, some 6), (102, some 11)], [(96, some 5), (103, some 12)], [(91, some 0), (104, some 13)], [(105, some 14)], [(106, some 15)]]) (by kernel_rfl) (by kernel_rfl) (by kernel_rfl) ?hS ?_
        rotate_left
        iterate 17 first
         | (refine chain_skip (by rfl) (by rfl) ?_)
         | (apply chain_want (by rfl)
            ·intro act wx hS hr
             simp at hr
             have e0 := hS.box.cell 0
             simp at e0
             obtain ⟨x0, x1⟩ := br_cell hS.p.row k d HDG.out
             go_simp
             (try go_ints)
             first
              | ((with_reducible refine (HEC.out _ hS.row (hS.p.its _ HDM.out)).mono ?_); rintro e w' ⟨rfl, hb⟩; exact Done.mk hb)
              | exact Done.same
           )
        show ∀ w', _ -> _
        intro wz hz
        simp [Act.put]
        case hS => exact HS.out
        have HZ := Lib.hid hz
        clear hz HS HEC hpz hqz
        go_wp2
        go_roundw
        case rel => exact ⟨k + 1, HLK.out, by go_num, by rw [HST.out], HZ.out⟩
        case measure => have := HLK.out; simp [intOf] <;> omega
       ·obtain rfl : k = D.length := by omega
        have hkz : ¬ ((D.length : Nat) : Int) < (D.length : Int) := by omega
        have e0 := HS.out.box.cell 0
        simp at e0
        have HNN : Hid (enB l ((D.take D.length).map brS) = rowV l (l.length - 1) W 0 W.length) := by
         unfold Hid; rw [show D.take D.length = D from List.take_length]; exact HEN.out
        rw [HNN.out]
        clear HNN HEN
        have HW1 := Lib.hid (HW.out _ HS.out.row (HS.out.wd HW8.out))
        generalize rowV l (l.length - 1) W 0 W.length = N at *
        clear hlk hk HW
        go_wp2_with fail
        refine HW1.out.mono ?_; rintro e w5 ⟨rfl, hb⟩
        have HB := Lib.hid ((HS.out.later hb).bel)
        clear hb
        go_wp2
        go_ret
        exact ⟨by simp, HB.out⟩
end Go.Proofs.Ytidoofdofdhjpaa
