/- Branches put together, those to one state as one: walked. -/
import Derived.Test.YtidoofdofdhjpaaM25
import Derived.Test.YtidoofdofdhjpaaM29
import Derived.Test.YtidoofdofdhjpaaM30
import Derived.Test.YtidoofdofdhjpaaM32
import Derived.Test.YtidoofdofdhjpaaM10
namespace Go.Proofs.Ytidoofdofdhjpaa
open Go Go.RowKit
set_option linter.unusedVariables false
set_option linter.unusedSimpArgs false
set_option maxRecDepth 100000
set_option maxHeartbeats 16000000
theorem add_len {s : List Itm} {m : Nat} : ∀ L : Brs, (addB L s m).length <= L.length + 1
 | [] => by unfold addB; simp
 | (t, k) :: L => by
  unfold addB
  split
  ·simp
  ·split
   ·simp
   ·rw [List.length_cons, List.length_cons]; have := add_len (s := s) (m := m) L; omega
theorem gt_len : ∀ P M : Brs, (gtB P M).length <= P.length + M.length
 | [], M => by show M.length <= _; omega
 | a :: P, M => by
  rw [gt_cons, List.length_cons]
  have h1 := gt_len P (addB M a.1 a.2)
  have h2 := add_len (s := a.1) (m := a.2) M
  omega
theorem own_last {w : World} {B g cap : Nat} {K : List HdE} {e : HdE} (h : OwnBr w B (.slice (some ⟨g, 0, none⟩) (K.length + 1) cap) (K ++ [e])) (z : Nat) :
 OwnBr (w.setCell ⟨g, K.length * 2 + 1, none⟩ (.int .i64 (z : Int))) B (.slice (some ⟨g, 0, none⟩) (K.length + 1) cap) (K ++ [⟨e.s, e.A, e.cap, z⟩]) /\ w.frozen? ⟨g, K.length * 2 + 1, none⟩ = false /\ (∃ v, w.cell? ⟨g, K.length * 2 + 1, none⟩ = some v) /\ B <= g /\ (∃ cur, Blk w g cur 41) := by
 have hlen : (K ++ [e]).length = K.length + 1 := by simp
 obtain ⟨h0, ⟨hv, hn⟩ | ⟨g', cap', cur, hv, hb, hg, hc, hm, hs, ht⟩⟩ := h
 ·cases hv
 ·obtain ⟨e1, -, e3⟩ := Value.slice.inj hv
  cases e1
  subst e3
  have hB : Blk w g cur 41 := hg
  have hB2 := hB.setCell (K.length * 2 + 1) (.int .i64 (z : Int))
  have hlen2 : (K ++ [(⟨e.s, e.A, e.cap, z⟩ : HdE)]).length = K.length + 1 := by simp
  have hlt : K.length * 2 + 1 < cur.size := by rw [hs]; rw [hlen] at hc; omega
  refine ⟨⟨flatBr_length _, .inr ⟨g, cap, _, by rw [hlen2], hb, hB2, by rw [hlen2]; rw [hlen] at hc; exact hc, hm, by simpa using hs, ?_⟩⟩, hB.frozen _, ⟨_, by rw [hB.cell]; exact Array.getElem?_eq_getElem hlt⟩, hb, cur, hB⟩
  rw [hlen2, Array.toList_setIfInBounds, List.take_set, <- hlen, ht, flatBr_append, flatBr_append]
  have hl : (flatBr K).length = K.length * 2 := flatBr_length K
  rw [List.set_append_right _ _ (by omega), hl, show K.length * 2 + 1 - K.length * 2 = 1 by omega]
  simp [flatBr, brC]
theorem own_blkB {w : World} {B : Nat} {v : Value} {l : List HdE} (h : OwnBr w B v l) {g : Nat} (hg : v.ownBlock = some g) : ∃ cur, Blk w g cur 41 := by
 obtain ⟨-, ⟨hv, -⟩ | ⟨g', cap, cur, hv, -, hgg, -⟩⟩ := h
 ·rw [hv] at hg; cases hg
 ·rw [hv] at hg; cases hg; exact ⟨cur, hgg⟩
theorem map_one {f : HdE -> List Itm × Nat} {L : List HdE} {x : List Itm × Nat} (h : L.map f = [x]) : ∃ e, L = [e] /\ f e = x := by
 match L, h with
 | [e], h => exact ⟨e, rfl, by simpa using h⟩
structure TgS (w1 : World) (D : List HdE) (k : Nat) (v : Value) (K : List HdE) (w : World) : Prop where
 bel : Below w1.heap.size w1 w
 own : OwnBr w w1.heap.size v K
 brs : K.map brS = gtB ((D.take k).map brS) []
 ent : ∀ d ∈ K, ∃ e ∈ D, d.A = e.A /\ d.s = e.s /\ d.cap = e.cap
 nn : ∃ g n c, v = .slice (some ⟨g, 0, none⟩) n c
theorem TgS.push {w1 w w' : World} {D K : List HdE} {k : Nat} {v v' : Value} {b : HdE} (h : TgS w1 D k v K w) (h1 : OwnBr w' w1.heap.size v' (K ++ [b])) (hg : w.grownBy w' v.ownBlock) (hb : b ∈ D) (hbr : gtB ((D.take (k + 1)).map brS) [] = (K ++ [b]).map brS) : TgS w1 D (k + 1) v' (K ++ [b]) w' := by
 refine ⟨h.bel.grown hg h.bel.size (fun q hq => (World.ownsRow.lt h.own q hq).1), h1, hbr.symm, fun d hd => ?_, ?_⟩
 ·rcases List.mem_append.1 hd with hd | hd
  ·exact h.ent d hd
  ·rw [List.mem_singleton.1 hd]; exact ⟨b, hb, rfl, rfl, rfl⟩
 ·obtain ⟨-, ⟨-, hn0⟩ | ⟨g, cap, cur, hv, -⟩⟩ := h1
  ·simp at hn0
  ·exact ⟨_, _, _, hv⟩
theorem TgS.last {w1 w : World} {D K : List HdE} {k g c : Nat} {e : HdE} (h : TgS w1 D k (.slice (some ⟨g, 0, none⟩) (K.length + 1) c) (K ++ [e]) w) (z : Nat) (hbr : gtB ((D.take (k + 1)).map brS) [] = (K ++ [(⟨e.s, e.A, e.cap, z⟩ : HdE)]).map brS) : TgS w1 D (k + 1) (.slice (some ⟨g, 0, none⟩) (K.length + 1) c) (K ++ [⟨e.s, e.A, e.cap, z⟩]) (w.setCell ⟨g, K.length * 2 + 1, none⟩ (.int .i64 (z : Int))) := by
 obtain ⟨h1, -, -, h4, -⟩ := own_last h.own z
 refine ⟨h.bel.setCell (p := ⟨g, K.length * 2 + 1, none⟩) h4 _, h1, hbr.symm, fun d hd => ?_, h.nn⟩
 rcases List.mem_append.1 hd with hd | hd
 ·exact h.ent d (List.mem_append_left _ hd)
 ·rw [List.mem_singleton.1 hd]
  exact (h.ent e (List.mem_append_right _ (List.mem_singleton.2 rfl)))
def TgL (w1 : World) (D : List HdE) (v i : Value) (w : World) : Prop := ∃ (k : Nat) (K : List HdE), k <= D.length /\ i = .int .i64 (k : Int) /\ TgS w1 D k v K w
def TgP (D : List HdE) (B2 : Nat) (v : Value) (w : World) (e : Ending) (w' : World) : Prop :=
 ∃ u D', e = .returned u /\ D'.map brS = gtB (D.map brS) [] /\ OwnBr w' w.heap.size u D' /\ (∀ d ∈ D', (∃ e ∈ D, d.A = e.A /\ d.s = e.s /\ d.cap = e.cap) /\ OwnIt w' B2 d.v d.s) /\ w.grownBy w' v.ownBlock
theorem nxTg_any (D : List HdE) (B B2 : Nat) (v : Value) (w : World) (h : OwnBr w B v D) (hB : B <= w.heap.size) (hr : ∀ e ∈ D, OwnIt w B2 e.v e.s) (hl : ∀ e ∈ D, e.s.length <= 1000) (hn : D.length <= 1000000) (hp : ∀ e ∈ D, 1 <= e.many /\ e.many <= 2) :
 Calls Try.prog 35 #[v] w (TgP D B2 v w) := by
 obtain ⟨A0, c0, rfl, -, -⟩ := h.row
 have HSO := Lib.hid (nxSort_any D B B2 (.slice A0 D.length c0) w h hr (fun e he => by have := hl e he; omega) hn)
 have HR0 := Lib.hid hr
 have HL0 := Lib.hid hl
 have HP0 := Lib.hid hp
 have HV := Lib.hid (fun (g : Nat) (hg : (Value.slice A0 D.length c0).ownBlock = some g) => World.ownsRow.lt h g hg)
 have HOB := Lib.hid h
 clear h hr hl hp
 go_enter Try.func35, Try.ntmps35
 go_wp2_with fail
 refine HSO.out.mono ?_; rintro e w1 ⟨rfl, D1, hpm, hsr, ho1, hg1⟩
 have HPM := Lib.hid hpm
 have HSR := Lib.hid hsr
 have HO1 := Lib.hid ho1
 have HG1 := Lib.hid hg1
 have hlen : D.length = D1.length := hpm.length_eq.symm
 have HLN := Lib.hid hlen
 rw [hlen] at hn HG1 HV HO1 ⊢
 have HR1 : Hid (∀ e ∈ D1, OwnIt w1 B2 e.v e.s) := fun e he => World.ownsRow.kept (HR0.out e (HPM.out.mem_iff.1 he)) hg1 (by
  rcases hvb : e.v.ownBlock with _ | g
  ·exact .inl rfl
  ·refine .inr fun e9 => ?_
   obtain ⟨cur, hcb⟩ := own_blkB HOB.out e9.symm
   exact own_not (HR0.out e (HPM.out.mem_iff.1 he)) hcb (by decide) hvb)
 have HL1 : Hid (∀ e ∈ D1, e.s.length <= 1000) := fun e he => HL0.out e (HPM.out.mem_iff.1 he)
 have HP1 : Hid (∀ e ∈ D1, 1 <= e.many /\ e.many <= 2) := fun e he => HP0.out e (HPM.out.mem_iff.1 he)
 have HGT : Hid (gtB (D.map brS) [] = gtB (D1.map brS) []) := gt_perm (HPM.out.symm.map brS) (fun a ha => by
  obtain ⟨e, he, rfl⟩ := List.mem_map.1 ha
  exact HP0.out e he)
 have HRW : Hid (BrRow w1 A0 D1) := by
  obtain ⟨a, c, e1, -, hr⟩ := ho1.row
  obtain ⟨e2, -, -⟩ := Value.slice.inj e1
  subst e2; exact hr
 clear hpm hsr ho1 hg1 HSO HR0 HL0 HP0 hlen
 clear HOB
 go_upto_region 3 with (refine wpList_make_br rfl _ _ rfl (D1.length : Int) D1.length rfl rfl rfl (by omega) ?_; intro w2 hown hbel; have HOWN := Lib.hid hown; have HBEL := Lib.hid hbel; clear hown hbel)
 have HS0 : Hid (TgS w1 D1 0 (.slice (some ⟨w1.heap.size, 0, none⟩) 0 D1.length) [] w2) := ⟨HBEL.out, HOWN.out, rfl, (fun d hd => by cases hd), ⟨_, _, _, rfl⟩⟩
 clear HOWN HBEL
 go_wp2
 go_loopw [3, 14] (TgL w1 D1) (fun _ i _ => D1.length - (intOf i).toNat)
 case atStart => exact ⟨0, [], Nat.zero_le _, rfl, HS0.out⟩
 case round =>
  obtain ⟨k, K, hk, rfl, hs⟩ := hrel
  obtain ⟨g, n3, c3, rfl⟩ := hs.nn
  have HS := Lib.hid hs
  clear hs HS0
  by_cases hlt : k < D1.length
  ·have hltz : (k : Int) < (D1.length : Int) := by omega
   obtain ⟨bd, od, hA, hbd, hcd⟩ := (HRW.out.later HS.out.bel) k hlt
   subst hA
   obtain ⟨b, hb⟩ : ∃ b, D1.getD k hd0 = b := ⟨_, rfl⟩
   rw [hb] at hcd
   have hbm : b ∈ D1 := by rw [<- hb, List.getD_eq_getElem?_getD, List.getElem?_eq_getElem hlt]; exact List.getElem_mem hlt
   have HBM := Lib.hid hbm
   have HBE : Hid (D1[k]? = some b) := by rw [<- hb, List.getD_eq_getElem?_getD, List.getElem?_eq_getElem hlt]; rfl
   have d0 : wr.cell? ⟨bd, od + k * 2, none⟩ = some (.slice b.A b.s.length b.cap) := hcd 0 (by decide)
   have d1 : wr.cell? ⟨bd, od + k * 2 + 1, none⟩ = some (.int .i64 (b.many : Int)) := hcd 1 (by decide)
   have hbA := (Below.refl wr.heap.size wr).alloc (Nat.le_refl _) (.cells (brC b) 41)
   have HXB := Lib.hid (Blk.new wr (brC b) 41)
   have HBA := Lib.hid hbA
   unfold brC at HXB HBA
   clear hb hbm hcd
   have HTK : Hid ((D1.take (k + 1)).map brS = (D1.take k).map brS ++ [brS b]) := by
    unfold Hid
    rw [List.take_add_one, HBE.out, List.map_append]; rfl
   have hle : ∀ a ∈ (D1.take k).map brS, stC a.1 (brS b).1 <= 0 := fun a ha => by
    obtain ⟨e, he, rfl⟩ := List.mem_map.1 ha
    obtain ⟨j, hj, rfl⟩ := List.mem_iff_getElem.1 he
    rw [List.length_take] at hj
    rw [List.getElem_take]
    obtain ⟨hk2, hb2⟩ := List.getElem?_eq_some_iff.1 HBE.out
    have := (List.pairwise_iff_getElem.1 HSR.out) j k (by omega) hk2 (by omega)
    rw [hb2] at this; exact this
   have hpp : PosB ((D1.take k).map brS) := fun a ha => by
    obtain ⟨e, he, rfl⟩ := List.mem_map.1 ha
    exact HP1.out e (List.mem_of_mem_take he)
   have hnx := gt_next hle hpp
   rw [<- HTK.out, <- HS.out.brs] at hnx
   have HXX : Hid (∀ w', Below wr.heap.size wr w' -> TgS w1 D1 k (.slice (some ⟨g, 0, none⟩) n3 c3) K w') := fun w' hb => ⟨HS.out.bel.trans (hb.mono HS.out.bel.size), HS.out.own.later hb, HS.out.brs, HS.out.ent, HS.out.nn⟩
   obtain ⟨a9, c9, e9, hnc9, hrow9⟩ := HS.out.own.row
   obtain ⟨e10, e11, -⟩ := Value.slice.inj e9
   subst e10
   subst e11
   clear hle hpp HTK e9 hnc9
   have HBI : Hid (b.A.isNone -> True) := fun _ => trivial
   have HBR : Hid (ItRow wr b.A b.s) := ((own_it (HR1.out b HBM.out)).2).later HS.out.bel
   have HBS : Hid (b.s.length <= 1000) := HL1.out b HBM.out
   have HBP : Hid (1 <= b.many /\ b.many <= 2) := HP1.out b HBM.out
   have hKl : K.length <= D1.length := by
    have h1 := congrArg List.length HS.out.brs
    have h2 := gt_len ((D1.take k).map brS) []
    rw [List.length_map] at h1 h2
    rw [List.length_take] at h2
    simp only [List.length_nil] at h2
    omega
   go_upto_region 6 with (fail)
   clear d0 d1
   generalize wr.alloc (.cells #[.slice b.A b.s.length b.cap, .int .i64 (b.many : Int)] 41) = wA at *
   obtain ⟨bx, hbx⟩ : ∃ bx, wr.heap.size = bx := ⟨_, rfl⟩
   have HBX := Lib.hid hbx
   rw [hbx] at HXB ⊢
   clear hbx
   rcases hnx with ⟨h1, h2⟩ | ⟨K0, t, kk, h1, ⟨h2, h3⟩ | ⟨h2, h3⟩⟩
   ·have hK0 : K = [] := by simpa using h1
    subst hK0
    have HN2 : Hid (gtB ((D1.take (k + 1)).map brS) [] = ([] ++ [b]).map brS) := h2
    clear h1 h2 hrow9
    simp only [List.length_nil] at HXX HS ⊢
    go_upto_region 7 with (fail)
    refine wp_region_stable (S := (BlwS wA)) (hSt := fun _ _ h hb => h.later hb) (plan := [[(6, none)], [(21, some 0)], [(22, some 1)], [(3, none)], [(6, none)], [(24, some 3), (25, some 4)], [(26, some 5)], [(27, some 6)], [(5, none)], [(29, some 8)], [(28, some 7), (30, some 9)], [(31, some 10)], [(23, some 2), (32, some 11)]]) (by kernel_rfl) (by kernel_rfl) (by kernel_rfl) ?hS ?_
    rotate_left
    iterate 13 first
     | (refine chain_skip (by rfl) (by rfl) ?_)
     | (apply chain_want (by rfl)
        ·intro act wx hS hr
         simp at hr
         go_simp
         (try go_ints)
         first
          | exact Done.same
       )
    show ∀ w', _ -> _
    intro wz hz
    simp [Act.put]
    case hS => exact Below.refl _ _
    have HBZ : Hid (Below wr.heap.size wr wz) := HBA.out.trans (Below.mono hz HBA.out.size)
    have HXZ := Lib.hid (HXB.out.later hz)
    clear hz
    have hb4 := (Below.refl wz.heap.size wz).alloc (Nat.le_refl _) (.cells #[.slice b.A b.s.length b.cap, .int .i64 (b.many : Int)] 41)
    have HX4 : Hid (Blk (wz.alloc (.cells #[.slice b.A b.s.length b.cap, .int .i64 (b.many : Int)] 41)) wz.heap.size (brC b) 41) := Blk.new wz #[.slice b.A b.s.length b.cap, .int .i64 (b.many : Int)] 41
    have HS4 := Lib.hid (HXX.out _ (HBZ.out.trans (hb4.mono HBZ.out.size)))
    have c0 := HXZ.out.cell 0
    have c1 := HXZ.out.cell 1
    simp at c0 c1
    have HKL : Hid (([] : List HdE).length < 1073741824) := Nat.lt_of_le_of_lt hKl (by omega)
    clear hb4
    go_wp2_with (at_builtin; refine wpList_append_br rfl _ _ rfl w1.heap.size (.slice (some ⟨g, 0, none⟩) 0 c3) ([] : List HdE) rfl HS4.out.own wz.heap.size b rfl HX4.out HKL.out HS4.out.bel.size ?_; intro v5 w5 h5 hg5; have HNS : Hid (TgS w1 D1 (k + 1) v5 (([] : List HdE) ++ [b]) w5) := TgS.push HS4.out h5 hg5 HBM.out HN2.out; clear h5 hg5)
    go_roundw
    case rel => exact ⟨k + 1, ([] : List HdE) ++ [b], hlt, by go_num, HNS.out⟩
    case measure => simp [intOf]; omega
   ·have hpos := (gt_all ((D1.take k).map brS) [] (fun a ha => by
     obtain ⟨e, he, rfl⟩ := List.mem_map.1 ha
     exact HP1.out e (List.mem_of_mem_take he)) List.Pairwise.nil (fun a h => by cases h)).2.1
    rw [<- HS.out.brs] at hpos
    obtain ⟨K1, L2, rfl, h5, h6⟩ := List.map_eq_append_iff.1 h1
    obtain ⟨e, rfl, h7⟩ := map_one h6
    cases h7
    obtain ⟨ed, hed, q1, q2, q3⟩ := HS.out.ent e (by simp)
    have HIE : Hid (ItRow wr e.A e.s) := by
     unfold Hid
     rw [q1, q2]
     exact ((own_it (HR1.out ed hed)).2).later HS.out.bel
    have HLE : Hid (e.s.length <= 1000) := by unfold Hid; rw [q2]; exact HL1.out ed hed
    have hlk : (K1 ++ [e]).length = K1.length + 1 := by simp
    have hce : wr.cell? ⟨g, K1.length * 2, none⟩ = some (.slice e.A e.s.length e.cap) /\ wr.cell? ⟨g, K1.length * 2 + 1, none⟩ = some (.int .i64 (e.many : Int)) /\ g < wr.heap.size := by
     obtain ⟨b9, o9, e9, hlt9, hc9⟩ := hrow9 K1.length (by simp)
     cases e9
     have hd : (K1 ++ [e]).getD K1.length hd0 = e := by simp
     rw [hd] at hc9
     refine ⟨?_, ?_, hlt9⟩
     ·have := hc9 0 (by decide); simpa [brC] using this
     ·have := hc9 1 (by decide); simpa [brC] using this
    have HCL : Hid (∀ w', BlwS wA w' -> (w'.cell? ⟨g, K1.length * 2, none⟩ = some (.slice e.A e.s.length e.cap) /\ w'.cell? ⟨g, K1.length * 2 + 1, none⟩ = some (.int .i64 (e.many : Int))) /\ w'.cell? ⟨bx, 0, none⟩ = some (.slice b.A b.s.length b.cap) /\ w'.cell? ⟨bx, 1, none⟩ = some (.int .i64 (b.many : Int))) := fun w' hb => by
     have hb9 := HBA.out.trans (Below.mono hb HBA.out.size)
     refine ⟨⟨(hb9.cell (p := ⟨g, _, none⟩) hce.2.2).trans hce.1, (hb9.cell (p := ⟨g, _, none⟩) hce.2.2).trans hce.2.1⟩, ?_, ?_⟩
     ·have := (HXB.out.later hb).cell 0; simpa using this
     ·have := (HXB.out.later hb).cell 1; simpa using this
    have HCM : Hid (∀ w', BlwS wA w' -> Calls Try.prog 58 #[.slice e.A e.s.length e.cap, .slice b.A b.s.length b.cap] w' (Ans w' (.int .i64 (stC e.s b.s)))) := fun w' hb => by
     have hb9 := HBA.out.trans (Below.mono hb HBA.out.size)
     exact (icompareD e.s b.s e.A b.A e.cap b.cap w' (HIE.out.later hb9) (HBR.out.later hb9) (by have := HLE.out; omega) (by have := HBS.out; omega)).mono fun e w'' h => ⟨h.1, h.2.below⟩
    have hem : e.many <= 2 := (hpos (brS e) (by simp)).2
    have hbm := HBP.out.2
    have hbe : e.s = b.s := h2
    have hnz : (stC e.s b.s == 0) = true := by rw [beq_iff_eq, hbe, stC_self]
    obtain ⟨zz, hzz⟩ : ∃ zz, zz = min 2 (e.many + b.many) := ⟨_, rfl⟩
    have HN2 : Hid (gtB ((D1.take (k + 1)).map brS) [] = (K1 ++ [(⟨e.s, e.A, e.cap, zz⟩ : HdE)]).map brS) := by
     unfold Hid
     rw [h3, List.map_append, h5, hzz]; rfl
    have hmn : min ((e.many : Int) + (b.many : Int)) 2 = (zz : Int) := by omega
    have hmn2 : min 2 ((e.many : Int) + (b.many : Int)) = (zz : Int) := by omega
    have hn0 : K1.length < K1.length + 1 := by omega
    have hlz : ((K1 ++ [e]).length : Int) - 1 = (K1.length : Int) := by rw [hlk]; omega
    have HPU : Hid (∀ w', BlwS wA w' -> w'.frozen? ⟨g, K1.length * 2 + 1, none⟩ = false /\ TgS w1 D1 (k + 1) (.slice (some ⟨g, 0, none⟩) (K1.length + 1) c3) (K1 ++ [(⟨e.s, e.A, e.cap, zz⟩ : HdE)]) (w'.setCell ⟨g, K1.length * 2 + 1, none⟩ (.int .i64 (zz : Int)))) := fun w' hb => by
     have h9 := HXX.out w' (HBA.out.trans (Below.mono hb HBA.out.size))
     rw [hlk] at h9
     exact ⟨(own_last h9.own zz).2.1, h9.last zz HN2.out⟩
    clear hce hrow9 h1 h2 h3 h5 h6 hed q1 q2 q3 hpos hzz hbe
    generalize stC e.s b.s = z at *
    go_upto_region 7 with (fail)
    have hge : decide ((K1.length : Int) >= 0) = true := by rw [decide_eq_true_iff]; omega
    have hge2 : (K1.length : Int) >= 0 := by omega
    obtain ⟨m0, hm0⟩ : ∃ m0, (K1 ++ [e]).length = m0 := ⟨_, rfl⟩
    have HM0 := Lib.hid hm0
    have hml : K1.length < m0 := by omega
    have hmlz : (K1.length : Int) < (m0 : Int) := by omega
    have hm0n : ¬ (K1.length : Int) < 0 := by omega
    rw [hm0]
    have HML : Hid (m0 = K1.length + 1) := by unfold Hid; omega
    clear hm0 hn0 hlk hlz
    refine wp_region_stable (S := (BlwS wA)) (hSt := fun _ _ h hb => h.later hb) (plan := [[(6, none)], [(21, some 0)], [(22, some 1)], [(3, none)], [(6, none)], [(24, some 3), (25, some 4)], [(26, some 5)], [(27, some 6)], [(5, none)], [(29, some 8)], [(28, some 7), (30, some 9)], [(31, some 10)], [(23, some 2), (32, some 11)]]) (by kernel_rfl) (by kernel_rfl) (by kernel_rfl) ?hS ?_
    rotate_left
    iterate 13 first
     | (refine chain_skip (by rfl) (by rfl) ?_)
     | (apply chain_want (by rfl)
        ·intro act wx hS hr
         simp at hr
         obtain ⟨⟨k0, k1⟩, b0, b1⟩ := HCL.out _ hS
         go_simp
         (try go_ints)
         first
          | ((with_reducible refine (HCM.out _ hS).mono ?_); rintro e w' ⟨rfl, hb⟩; exact Done.mk hb)
          | exact Done.same
       )
    show ∀ w', _ -> _
    intro w8 hw8
    simp [Act.put]
    case hS => exact Below.refl _ _
    go_upto_region 8 with (fail)
    refine wp_region_stable_last (S := (BlwS wA)) (hSt := fun _ _ h hb => h.later hb) (plan := [[(3, none)], [(6, none)], [(3, none)], [(6, none)], [(36, some 2), (37, some 3)], [(38, some 4)], [(39, some 5)], [(5, none)], [(41, some 7)], [(40, some 6), (42, some 8)], [(43, some 9)], [(34, some 0), (35, some 1)], [(45, some 11)]]) rfl (by kernel_rfl) (by kernel_rfl) (by kernel_rfl) (by kernel_rfl) ?hS ?_
    rotate_left
    simp only [List.dropLast]
    iterate 13 first
     | (refine chain_skip (by rfl) (by rfl) ?_)
     | (apply chain_want (by rfl)
        ·intro act wx hS hr
         simp at hr
         obtain ⟨⟨k0, k1⟩, b0, b1⟩ := HCL.out _ hS
         go_simp
         (try go_ints)
         first
          | exact Done.same
       )
    show ∀ w', _ -> _
    intro w9 hw9
    simp [Act.put]
    case hS => exact hw8
    obtain ⟨hfz, hnx9⟩ := HPU.out _ hw9
    obtain ⟨⟨k0, k1⟩, b0, b1⟩ := HCL.out _ hw9
    rw [<- HML.out] at hnx9
    have HNX := Lib.hid hnx9
    clear hnx9 hw9 hw8
    go_wp2
    go_roundw
    case rel => exact ⟨k + 1, _, hlt, by go_num, HNX.out⟩
    case measure => simp [intOf]; omega
   ·skip
    obtain ⟨K1, L2, rfl, h5, h6⟩ := List.map_eq_append_iff.1 h1
    obtain ⟨e, rfl, h7⟩ := map_one h6
    cases h7
    obtain ⟨ed, hed, q1, q2, q3⟩ := HS.out.ent e (by simp)
    have HIE : Hid (ItRow wr e.A e.s) := by
     unfold Hid
     rw [q1, q2]
     exact ((own_it (HR1.out ed hed)).2).later HS.out.bel
    have HLE : Hid (e.s.length <= 1000) := by unfold Hid; rw [q2]; exact HL1.out ed hed
    have hlk : (K1 ++ [e]).length = K1.length + 1 := by simp
    have hce : wr.cell? ⟨g, K1.length * 2, none⟩ = some (.slice e.A e.s.length e.cap) /\ wr.cell? ⟨g, K1.length * 2 + 1, none⟩ = some (.int .i64 (e.many : Int)) /\ g < wr.heap.size := by
     obtain ⟨b9, o9, e9, hlt9, hc9⟩ := hrow9 K1.length (by simp)
     cases e9
     have hd : (K1 ++ [e]).getD K1.length hd0 = e := by simp
     rw [hd] at hc9
     refine ⟨?_, ?_, hlt9⟩
     ·have := hc9 0 (by decide); simpa [brC] using this
     ·have := hc9 1 (by decide); simpa [brC] using this
    have HCL : Hid (∀ w', BlwS wA w' -> (w'.cell? ⟨g, K1.length * 2, none⟩ = some (.slice e.A e.s.length e.cap) /\ w'.cell? ⟨g, K1.length * 2 + 1, none⟩ = some (.int .i64 (e.many : Int))) /\ w'.cell? ⟨bx, 0, none⟩ = some (.slice b.A b.s.length b.cap) /\ w'.cell? ⟨bx, 1, none⟩ = some (.int .i64 (b.many : Int))) := fun w' hb => by
     have hb9 := HBA.out.trans (Below.mono hb HBA.out.size)
     refine ⟨⟨(hb9.cell (p := ⟨g, _, none⟩) hce.2.2).trans hce.1, (hb9.cell (p := ⟨g, _, none⟩) hce.2.2).trans hce.2.1⟩, ?_, ?_⟩
     ·have := (HXB.out.later hb).cell 0; simpa using this
     ·have := (HXB.out.later hb).cell 1; simpa using this
    have HCM : Hid (∀ w', BlwS wA w' -> Calls Try.prog 58 #[.slice e.A e.s.length e.cap, .slice b.A b.s.length b.cap] w' (Ans w' (.int .i64 (stC e.s b.s)))) := fun w' hb => by
     have hb9 := HBA.out.trans (Below.mono hb HBA.out.size)
     exact (icompareD e.s b.s e.A b.A e.cap b.cap w' (HIE.out.later hb9) (HBR.out.later hb9) (by have := HLE.out; omega) (by have := HBS.out; omega)).mono fun e w'' h => ⟨h.1, h.2.below⟩
    have hnz : (stC e.s b.s == 0) = false := by
     rw [beq_eq_false_iff_ne]
     exact fun q => h2 ((stC_zero _ _).1 q)
    have HN2 : Hid (gtB ((D1.take (k + 1)).map brS) [] = ((K1 ++ [e]) ++ [b]).map brS) := by
     unfold Hid
     rw [h3, List.map_append, List.map_append, h5]; rfl
    have hn0 : K1.length < K1.length + 1 := by omega
    have hlz : ((K1 ++ [e]).length : Int) - 1 = (K1.length : Int) := by rw [hlk]; omega
    clear hce hrow9 h1 h2 h3 h5 h6 hed q1 q2 q3
    generalize stC e.s b.s = z at *
    go_upto_region 7 with (fail)
    have hge : decide ((K1.length : Int) >= 0) = true := by rw [decide_eq_true_iff]; omega
    have hge2 : (K1.length : Int) >= 0 := by omega
    obtain ⟨m0, hm0⟩ : ∃ m0, (K1 ++ [e]).length = m0 := ⟨_, rfl⟩
    have HM0 := Lib.hid hm0
    have hml : K1.length < m0 := by omega
    have hmlz : (K1.length : Int) < (m0 : Int) := by omega
    have hm0n : ¬ (K1.length : Int) < 0 := by omega
    rw [hm0]
    clear hm0 hn0 hlk hlz
    refine wp_region_stable (S := (BlwS wA)) (hSt := fun _ _ h hb => h.later hb) (plan := [[(6, none)], [(21, some 0)], [(22, some 1)], [(3, none)], [(6, none)], [(24, some 3), (25, some 4)], [(26, some 5)], [(27, some 6)], [(5, none)], [(29, some 8)], [(28, some 7), (30, some 9)], [(31, some 10)], [(23, some 2), (32, some 11)]]) (by kernel_rfl) (by kernel_rfl) (by kernel_rfl) ?hS ?_
    rotate_left
    iterate 13 first
     | (refine chain_skip (by rfl) (by rfl) ?_)
     | (apply chain_want (by rfl)
        ·intro act wx hS hr
         simp at hr
         obtain ⟨⟨k0, k1⟩, b0, b1⟩ := HCL.out _ hS
         go_simp
         (try go_ints)
         first
          | ((with_reducible refine (HCM.out _ hS).mono ?_); rintro e w' ⟨rfl, hb⟩; exact Done.mk hb)
          | exact Done.same
       )
    show ∀ w', _ -> _
    intro wz hz
    simp [Act.put]
    case hS => exact Below.refl _ _
    have HBZ : Hid (Below wr.heap.size wr wz) := HBA.out.trans (Below.mono hz HBA.out.size)
    have HXZ := Lib.hid (HXB.out.later hz)
    clear hz
    rw [<- HM0.out]
    have hb4 := (Below.refl wz.heap.size wz).alloc (Nat.le_refl _) (.cells #[.slice b.A b.s.length b.cap, .int .i64 (b.many : Int)] 41)
    have HX4 : Hid (Blk (wz.alloc (.cells #[.slice b.A b.s.length b.cap, .int .i64 (b.many : Int)] 41)) wz.heap.size (brC b) 41) := Blk.new wz #[.slice b.A b.s.length b.cap, .int .i64 (b.many : Int)] 41
    have HS4 := Lib.hid (HXX.out _ (HBZ.out.trans (hb4.mono HBZ.out.size)))
    have c0 := HXZ.out.cell 0
    have c1 := HXZ.out.cell 1
    simp at c0 c1
    have HKL : Hid ((K1 ++ [e]).length < 1073741824) := Nat.lt_of_le_of_lt hKl (by omega)
    clear hb4
    go_wp2_with (at_builtin; refine wpList_append_br rfl _ _ rfl w1.heap.size (.slice (some ⟨g, 0, none⟩) ((K1 ++ [e]).length) c3) (K1 ++ [e]) rfl HS4.out.own wz.heap.size b rfl HX4.out HKL.out HS4.out.bel.size ?_; intro v5 w5 h5 hg5; have HNS : Hid (TgS w1 D1 (k + 1) v5 ((K1 ++ [e]) ++ [b]) w5) := TgS.push HS4.out h5 hg5 HBM.out HN2.out; clear h5 hg5)
    go_roundw
    case rel => exact ⟨k + 1, (K1 ++ [e]) ++ [b], hlt, by go_num, HNS.out⟩
    case measure => simp [intOf]; omega
  ·obtain rfl : k = D1.length := by omega
   have hltz : ¬ ((D1.length : Nat) : Int) < (D1.length : Int) := by omega
   have HP : Hid (TgP D B2 (.slice A0 D1.length c0) w (.returned (.slice (some ⟨g, 0, none⟩) n3 c3)) wr) := by
    refine ⟨_, K, rfl, ?_, HS.out.own.lower HG1.out.size, fun d hd => ?_, grown_below HG1.out HS.out.bel⟩
    ·rw [HS.out.brs, List.take_length, HGT.out]
    ·obtain ⟨e, he, q1, q2, q3⟩ := HS.out.ent d hd
     refine ⟨⟨e, HPM.out.mem_iff.1 he, q1, q2, q3⟩, ?_⟩
     have h1 := (HR1.out e he).later HS.out.bel
     have h2 : d.v = e.v := by unfold HdE.v; rw [q1, q2, q3]
     rw [h2, q2]; exact h1
   obtain ⟨a9, c9, e9, -, -⟩ := HS.out.own.row
   obtain ⟨e10, e11, -⟩ := Value.slice.inj e9
   clear HS hlt
   go_wp2
   go_ret
   rw [HLN.out]
   exact HP.out
end Go.Proofs.Ytidoofdofdhjpaa
namespace Go.Proofs.Ytidoofdofdhjpaa
open Go
set_option linter.unusedVariables false
set_option linter.unusedSimpArgs false
def liI (x : Itm) : Nat := if x.kind = 1 \/ x.kind = 2 then x.node.toNat + 1 else 1
def liS : List Itm -> Nat
 | [] => 0
 | x :: r => max (liI x + r.length) (liS r)
theorem liI_pos (x : Itm) : 1 <= liI x := by unfold liI; split <;> omega
theorem li_cons (x : Itm) (r : List Itm) : liS (x :: r) = max (liI x + r.length) (liS r) := rfl
theorem li_len : ∀ s : List Itm, s.length <= liS s
 | [] => Nat.le_refl _
 | x :: r => by rw [li_cons, List.length_cons]; have := liI_pos x; omega
theorem li_node (a : Int) : liI ⟨1, a, 0, 0⟩ = a.toNat + 1 := by unfold liI; rw [if_pos (.inl rfl)]
theorem li_rep (a lo hi : Int) : liI ⟨2, a, lo, hi⟩ = a.toNat + 1 := by unfold liI; rw [if_pos (.inr rfl)]
theorem li_open {l : List Nd} (hF : Form l) {x : Itm} {r t : List Itm} (hx : HdF l x) (hrd : rdyS l (x :: r) = false) (ht : t ∈ opnS l x r) : liS t <= liS (x :: r) := by
 obtain ⟨k, nd, lo, hi⟩ := x
 have hkd := hx.kind
 have hp := liI_pos ⟨k, nd, lo, hi⟩
 have hr := li_len r
 rw [li_cons]
 unfold opnS at ht
 simp only at ht hkd
 by_cases h5 : k = 5
 ·rw [if_pos h5] at ht
  split at ht
  ·rw [List.mem_singleton.1 ht]; omega
  ·cases ht
 rw [if_neg h5] at ht
 have hn := hx.node h5
 simp only at hn
 have hil : nd.toNat < l.length := by omega
 have kids : (4 <= (atN l nd.toNat).kind -> 0 <= (atN l nd.toNat).a /\ (atN l nd.toNat).a < (nd.toNat : Int)) /\ ((atN l nd.toNat).kind = 4 \/ (atN l nd.toNat).kind = 5 -> 0 <= (atN l nd.toNat).b /\ (atN l nd.toNat).b < (nd.toNat : Int)) := by
  have hfl := firstP_le l (nd.toNat - 1)
  cases hd_cs hF hil with
  | leaf h1 hf => unfold leafK at h1; exact ⟨fun h => by omega, fun h => by omega⟩
  | one h1 hi0 ha hb h7 hr hcl hf => exact ⟨fun h => by omega, fun h => by omega⟩
  | two h1 hi0 hb ha hf0 hl hcl hf => exact ⟨fun h => by omega, fun h => by omega⟩
 by_cases h2 : k = 2
 ·subst h2
  rw [if_pos rfl] at ht
  rw [li_rep]
  obtain ⟨h7, -⟩ := hx.two rfl
  simp only at h7
  have ha := kids.1 (by omega)
  rcases List.mem_append.1 ht with ht | ht
  ·split at ht
   ·rw [List.mem_singleton.1 ht]; omega
   ·cases ht
  ·split at ht
   ·rw [List.mem_singleton.1 ht, li_cons, li_cons, li_node, li_rep, List.length_cons]
    omega
   ·cases ht
 rw [if_neg h2] at ht
 by_cases h1 : k = 1
 ·subst h1
  rw [show liI ⟨1, nd, lo, hi⟩ = nd.toNat + 1 by unfold liI; rw [if_pos (.inl rfl)]]
  by_cases n1 : (atN l nd.toNat).kind = 1
  ·rw [if_pos n1] at ht
   rw [List.mem_singleton.1 ht]; omega
  rw [if_neg n1] at ht
  by_cases n3 : (atN l nd.toNat).kind = 3
  ·rw [if_pos n3] at ht
   rw [List.mem_singleton.1 ht, li_cons]
   have : liI ⟨3, nd, 0, 0⟩ = 1 := by unfold liI; rw [if_neg (by simp)]
   omega
  rw [if_neg n3] at ht
  by_cases n4 : (atN l nd.toNat).kind = 4
  ·rw [if_pos n4] at ht
   have ha := kids.1 (by omega)
   have hb := kids.2 (by omega)
   rw [List.mem_singleton.1 ht, li_cons, li_cons, li_node, li_node, List.length_cons]
   omega
  rw [if_neg n4] at ht
  by_cases n5 : (atN l nd.toNat).kind = 5
  ·rw [if_pos n5] at ht
   have ha := kids.1 (by omega)
   have hb := kids.2 (by omega)
   rcases List.mem_cons.1 ht with h | h
   ·rw [h, li_cons, li_node]; omega
   ·rw [List.mem_singleton.1 h, li_cons, li_node]; omega
  rw [if_neg n5] at ht
  by_cases n6 : (atN l nd.toNat).kind = 6
  ·rw [if_pos n6] at ht
   have ha := kids.1 (by omega)
   rcases List.mem_cons.1 ht with h | h
   ·rw [h]; omega
   ·rw [List.mem_singleton.1 h, li_cons, li_cons, li_node, List.length_cons, show liI ⟨1, nd, lo, hi⟩ = nd.toNat + 1 by unfold liI; rw [if_pos (.inl rfl)]]
    omega
  rw [if_neg n6] at ht
  by_cases n7 : (atN l nd.toNat).kind = 7
  ·rw [if_pos n7] at ht
   rw [List.mem_singleton.1 ht, li_cons, li_rep]; omega
  rw [if_neg n7] at ht
  cases ht
 ·exfalso
  unfold rdyS at hrd
  rcases (by omega : k = 3 \/ k = 4) with rfl | rfl <;> simp at hrd
theorem li_rch {l : List Nd} (hR : Rgt l) : ∀ (N : Nat) (s : List Itm), dpS l s <= N -> (∀ y ∈ s, HdF l y) -> ∀ t ∈ rchS l s, t.length <= liS s := fun N => by
 induction N with
 | zero =>
  intro s hN hs t ht
  cases hrd : rdyS l s with
  | true => rw [rch_ready hrd] at ht; rw [List.mem_singleton.1 ht]; exact li_len s
  | false =>
   cases s with
   | nil => unfold rdyS at hrd; cases hrd
   | cons x r =>
    rw [rch_open hR hs hrd] at ht
    obtain ⟨q, hq, -⟩ := List.mem_flatMap.1 ht
    have := opn_lt hR (hs x (List.mem_cons_self ..)) hrd hq
    omega
 | succ N ih =>
  intro s hN hs t ht
  cases hrd : rdyS l s with
  | true => rw [rch_ready hrd] at ht; rw [List.mem_singleton.1 ht]; exact li_len s
  | false =>
   cases s with
   | nil => unfold rdyS at hrd; cases hrd
   | cons x r =>
    rw [rch_open hR hs hrd] at ht
    obtain ⟨q, hq, ht⟩ := List.mem_flatMap.1 ht
    have h1 := opn_lt hR (hs x (List.mem_cons_self ..)) hrd hq
    have h2 := ih q (by omega) (opn_form hR.1 (hs x (List.mem_cons_self ..)) (fun y hy => hs y (List.mem_cons_of_mem _ hy)) hq) t ht
    have h3 := li_open hR.1 (hs x (List.mem_cons_self ..)) hrd hq
    omega
theorem li_le {l : List Nd} (h0 : 0 < l.length) : ∀ {s : List Itm}, (∀ y ∈ s, HdF l y) -> liS s <= l.length + s.length
 | [], _ => Nat.zero_le _
 | x :: r, h => by
  rw [li_cons, List.length_cons]
  have h1 := li_le h0 (s := r) fun y hy => h y (List.mem_cons_of_mem _ hy)
  have h2 : liI x <= l.length := by
   unfold liI
   have hx := h x (List.mem_cons_self ..)
   split
   ·have := hx.node (by omega); omega
   ·omega
  omega
theorem hds_slen {l : List Nd} (hR : Rgt l) {s : List Itm} (hs : ∀ y ∈ s, HdF l y) : ∀ a ∈ hdsL l s, a.1.length <= l.length + s.length := fun a ha => by
 have h1 : a.1 ∈ rchS l s := by
  rw [<- brsL_keys]; exact List.mem_map_of_mem ha
 have h2 := li_rch hR _ s (Nat.le_refl _) hs a.1 h1
 have h3 := li_le hR.1.1 hs
 omega
end Go.Proofs.Ytidoofdofdhjpaa
namespace Go.Proofs.Ytidoofdofdhjpaa
open Go Go.RowKit
set_option linter.unusedVariables false
set_option linter.unusedSimpArgs false
set_option maxRecDepth 100000
set_option maxHeartbeats 16000000
def BrsP (T : Brs) (n : Nat) (w : World) (e : Ending) (w' : World) : Prop :=
 ∃ v D, e = .returned v /\ D.map brS = T /\ OwnBr w' w.heap.size v D /\ (∀ d ∈ D, OwnIt w' w.heap.size d.v d.s /\ d.s.length <= n) /\ Below w.heap.size w w'
structure NoS (w3 : World) (l : List Nd) (u : UInt8) (D : List HdE) (n k : Nat) (v : Value) (E : List HdE) (w : World) : Prop where
 bel : Below w3.heap.size w3 w
 own : OwnBr w w3.heap.size v E
 brs : E.map brS = rdB l u ((D.take k).map brS)
 ent : ∀ d ∈ E, OwnIt w w3.heap.size d.v d.s /\ d.s.length <= n /\ 1 <= d.many /\ d.many <= 2
def NoL (w3 : World) (l : List Nd) (u : UInt8) (D : List HdE) (n : Nat) (v i : Value) (w : World) : Prop := ∃ (k : Nat) (E : List HdE), k <= D.length /\ i = .int .i64 (k : Int) /\ NoS w3 l u D n k v E w
theorem NoS.later {w3 w w' : World} {l : List Nd} {u : UInt8} {D E : List HdE} {n k : Nat} {v : Value} (h : NoS w3 l u D n k v E w) (hb : Below w.heap.size w w') : NoS w3 l u D n k v E w' :=
 ⟨h.bel.trans (hb.mono h.bel.size), h.own.later hb, h.brs, fun d hd => ⟨(h.ent d hd).1.later hb, (h.ent d hd).2⟩⟩
theorem NoS.push {w3 w w' : World} {l : List Nd} {u : UInt8} {D E : List HdE} {n k : Nat} {v v' : Value} {p : HdE} (h : NoS w3 l u D n k v E w) (h1 : OwnBr w' w3.heap.size v' (E ++ [p])) (hg : w.grownBy w' v.ownBlock) (hp : OwnIt w w3.heap.size p.v p.s) (hp2 : p.s.length <= n /\ 1 <= p.many /\ p.many <= 2) (hb : rdB l u ((D.take (k + 1)).map brS) = (E ++ [p]).map brS) : NoS w3 l u D n (k + 1) v' (E ++ [p]) w' := by
 have hkp : ∀ {x : Value} {s : List Itm}, OwnIt w w3.heap.size x s -> OwnIt w' w3.heap.size x s := fun {x s} hx => World.ownsRow.kept hx hg (by
  rcases hvb : x.ownBlock with _ | g
  ·exact .inl rfl
  ·refine .inr fun e9 => ?_
   obtain ⟨cur, hcb⟩ := own_blkB h.own e9.symm
   exact own_not hx hcb (by decide) hvb)
 refine ⟨h.bel.grown hg h.bel.size (fun q hq => (World.ownsRow.lt h.own q hq).1), h1, hb.symm, fun d hd => ?_⟩
 rcases List.mem_append.1 hd with hd | hd
 ·exact ⟨hkp (h.ent d hd).1, (h.ent d hd).2⟩
 ·rw [List.mem_singleton.1 hd]; exact ⟨hkp hp, hp2⟩
theorem rdS_len {l : List Nd} {s q : List Itm} {c : UInt8} (h : rdS l s c = some q) : q.length <= s.length + 1 := by
 cases s with
 | nil => cases h
 | cons x r =>
  have h' : (lowS r).bind (fun q => (frS l x c).map fun f => f ++ q) = some q := h
  cases h1 : lowS r with
  | none => rw [h1] at h'; cases h'
  | some p =>
   cases h2 : frS l x c with
   | none => rw [h1, h2] at h'; cases h'
   | some f =>
    rw [h1, h2] at h'
    cases h'
    have := fr_two h2
    have := low_len h1
    rw [List.length_append, List.length_cons]; omega
structure NoB (w0 : World) (A : Option Addr) (l : List Nd) (c m : Nat) (AD : Option Addr) (D : List HdE) (w : World) : Prop where
 bel : Below w0.heap.size w0 w
 row : NRow w A l
 box : Blk w w0.heap.size #[.slice A l.length c] 24
 map : IsMapK w m rdL
 hds : BrRow w AD D
 ent : ∀ d ∈ D, OwnIt w w0.heap.size d.v d.s
theorem NoB.later {w0 w w' : World} {A : Option Addr} {l : List Nd} {c m : Nat} {AD : Option Addr} {D : List HdE} (h : NoB w0 A l c m AD D w) (hb : Below w.heap.size w w') : NoB w0 A l c m AD D w' :=
 ⟨h.bel.trans (hb.mono h.bel.size), h.row.later hb, h.box.later hb, h.map.later hb, h.hds.later hb, fun d hd => (h.ent d hd).later hb⟩
theorem nxOn_any (l : List Nd) (A : Option Addr) (c : Nat) (s : List Itm) (B : Option Addr) (c2 : Nat) (u : UInt8) (hR : Rgt l) (hlen : l.length <= 300) (htx : Txt l) (hs : ∀ y ∈ s, HdF l y) (hsl : s.length <= 200) (w : World) (hrow : NRow w A l) (hss : ItRow w B s) :
 Calls Try.prog 14 #[.agg #[.slice A l.length c], .slice B s.length c2, .int .u8 (u.toNat : Int)] w (BrsP (brsL (onL l s u)) (l.length + s.length + 1) w) := by
 have hb1 := (Below.refl w.heap.size w).alloc (Nat.le_refl _) (.cells #[.slice A l.length c] 24)
 have HBX := Lib.hid (Blk.new w #[.slice A l.length c] 24)
 have HB1 := Lib.hid hb1
 have HRW := Lib.hid hrow
 have HSS := Lib.hid hss
 have HH := Lib.hid (fun (w' : World) (h1 : NRow w' A l) (h2 : ItRow w' B s) => hdHeads_any l A c s B c2 hR hlen htx hs hsl w' h1 h2)
 have HHF : Hid (∀ a ∈ hdsL l s, (∀ y ∈ a.1, HdF l y) /\ rdyS l a.1 = true /\ a.1.length <= l.length + s.length /\ 1 <= a.2 /\ a.2 <= 2) := fun a ha => ⟨(hds_ok hR.1 hs ha).2.1, (hds_ok hR.1 hs ha).1, hds_slen hR hs a ha, hds_pos l s a ha⟩
 have HHL : Hid ((hdsL l s).length <= 200 * 300 + 1) := by
  have := hds_len hR hs
  have h2 : s.length * l.length <= 200 * 300 := Nat.mul_le_mul hsl hlen
  unfold Hid; omega
 have HON : Hid (gtB (rdB l u (hdsL l s)) [] = brsL (onL l s u)) := rd_on
 clear hb1 hrow hss
 have HIT : Hid (∀ {q : List Itm}, (∀ y ∈ q, HdF l y) -> ItOk q) := fun {q} hq => hd_itok hR.1 (by omega) htx hq
 have HRR : Hid (∀ (q : List Itm) (B' : Option Addr) (c' m : Nat), (∀ y ∈ q, HdF l y) -> rdyS l q = true -> q.length <= 1000 -> q.length <= c' -> ∀ w', NRow w' A l -> ItRow w' B' q -> IsMapK w' m rdL -> Calls Try.prog 34 #[.map (some m), .agg #[.slice A l.length c], .slice B' q.length c', .int .u8 (u.toNat : Int)] w' (NrdP (rdS l q u) w')) := fun q B' c' m h1 h2 h3 h4 w' h6 h7 h8 => nxread_any l A c q B' c' u m hR.1.1 (by omega) htx h1 h2 h3 h4 (HIT.out h1) w' h6 h7 h8
 clear hs htx
 go_enter Try.func14, Try.ntmps14
 go_upto_region 1 with (fail)
 generalize w.alloc (.cells #[.slice A l.length c] 24) = w1 at *
 go_wp2_with fail
 refine (nxTable_any w1).mono ?_; rintro e w2 ⟨m, rfl, hm2, hb2⟩
 have e0 := (HBX.out.later hb2).cell 0
 simp at e0
 have HB2 := Lib.hid (HB1.out.trans (hb2.mono HB1.out.size))
 have HX2 := Lib.hid (HBX.out.later hb2)
 have HM2 := Lib.hid hm2
 have HHC := Lib.hid (HH.out w2 (HRW.out.later HB2.out) (HSS.out.later HB2.out))
 clear hm2 hb2 HB1 HBX HH
 go_wp2_with fail
 refine HHC.out.mono ?_; rintro e w3 ⟨vD, D, rfl, hbr, hoD, hoE, hb3, -⟩
 obtain ⟨AD, cD, rfl, -, hrD⟩ := hoD.row
 have HB3 := Lib.hid (HB2.out.trans (hb3.mono HB2.out.size))
 have HNB : Hid (NoB w A l c m AD D w3) := ⟨HB3.out, HRW.out.later HB3.out, HX2.out.later hb3, HM2.out.later hb3, hrD, fun d hd => (hoE d hd).lower HB2.out.size⟩
 rw [<- hbr] at HHF HHL HON
 have HDF : Hid (∀ d ∈ D, (∀ y ∈ d.s, HdF l y) /\ rdyS l d.s = true /\ d.s.length <= l.length + s.length /\ 1 <= d.many /\ d.many <= 2) := fun d hd => HHF.out (brS d) (List.mem_map_of_mem hd)
 have HDL : Hid (D.length <= 60001) := by have := HHL.out; rw [List.length_map] at this; exact this
 clear hbr hoD hoE hb3 hrD HB2 HX2 HM2 HHC e0 HHF HHL HB3 HSS HRW
 have HS0 : Hid (NoS w3 l u D (l.length + s.length + 1) 0 (.slice none 0 0) [] w3) := ⟨Below.refl _ _, ⟨rfl, .inl ⟨rfl, rfl⟩⟩, rfl, fun d hd => by cases hd⟩
 have hdl : D.length <= 60001 := HDL.out
 generalize hmx : l.length + s.length = mx at *
 have hmxl : mx <= 500 := by omega
 clear hmx
 go_wp2
 go_loopw [8, 18] (NoL w3 l u D (mx + 1)) (fun _ i _ => D.length - (intOf i).toNat)
 case atStart => exact ⟨0, [], Nat.zero_le _, rfl, HS0.out⟩
 case round =>
  obtain ⟨k, E, hk, rfl, hs⟩ := hrel
  have HS := Lib.hid hs
  clear hs HS0
  by_cases hlt : k < D.length
  ·have hltz : (k : Int) < (D.length : Int) := by omega
   have HNR := Lib.hid (HNB.out.later HS.out.bel)
   obtain ⟨bd, od, hA, hbd, hcd⟩ := HNR.out.hds k hlt
   subst hA
   obtain ⟨b, hb⟩ : ∃ b, D.getD k hd0 = b := ⟨_, rfl⟩
   rw [hb] at hcd
   have hbm : b ∈ D := by rw [<- hb, List.getD_eq_getElem?_getD, List.getElem?_eq_getElem hlt]; exact List.getElem_mem hlt
   have HBE : Hid (D[k]? = some b) := by rw [<- hb, List.getD_eq_getElem?_getD, List.getElem?_eq_getElem hlt]; rfl
   have d0 : wr.cell? ⟨bd, od + k * 2, none⟩ = some (.slice b.A b.s.length b.cap) := hcd 0 (by decide)
   have d1 : wr.cell? ⟨bd, od + k * 2 + 1, none⟩ = some (.int .i64 (b.many : Int)) := hcd 1 (by decide)
   have hbA := (Below.refl wr.heap.size wr).alloc (Nat.le_refl _) (.cells (brC b) 41)
   have HXB := Lib.hid (Blk.new wr (brC b) 41)
   have HBA := Lib.hid hbA
   unfold brC at HXB HBA
   have HTK : Hid ((D.take (k + 1)).map brS = (D.take k).map brS ++ [brS b]) := by
    unfold Hid
    rw [List.take_add_one, HBE.out, List.map_append]; rfl
   have HF := Lib.hid (HDF.out b hbm)
   obtain ⟨hcap, hits⟩ := own_it (HNR.out.ent b hbm)
   have HCP := Lib.hid hcap
   have HIS := Lib.hid (hits.later hbA)
   have HNA := Lib.hid (HNR.out.later hbA)
   clear hb hbm hcd hbA hcap hits
   go_upto_region 6 with (fail)
   clear d0 d1
   unfold brC at HIS HNA
   generalize wr.alloc (.cells #[.slice b.A b.s.length b.cap, .int .i64 (b.many : Int)] 41) = wA at *
   obtain ⟨bx, hbx⟩ : ∃ bx, wr.heap.size = bx := ⟨_, rfl⟩
   have HBX := Lib.hid hbx
   rw [hbx] at HXB ⊢
   clear hbx
   have HCA := Lib.hid (HRR.out b.s b.A b.cap m HF.out.1 HF.out.2.1 (by have := HF.out.2.2.1; omega) HCP.out wA HNA.out.row HIS.out HNA.out.map)
   have e0 := HNA.out.box.cell 0
   have b0 := HXB.out.cell 0
   simp at e0 b0
   go_wp2_with fail
   refine HCA.out.mono ?_; rintro e w5 ⟨v5, rfl, hb5, hq5, hn5⟩
   have HB5 := Lib.hid (HBA.out.trans (hb5.mono HBA.out.size))
   have HS5 := Lib.hid (HS.out.later HB5.out)
   have HX5 := Lib.hid (HXB.out.later hb5)
   have HQ5 := Lib.hid hq5
   have HN5 := Lib.hid hn5
   have HLA : Hid (w3.heap.size <= wA.heap.size) := Nat.le_trans HS.out.bel.size HBA.out.size
   have HEL : Hid (E.length <= 60001) := by
    have h1 := congrArg List.length HS.out.brs
    rw [List.length_map] at h1
    have h2 : (rdB l u ((D.take k).map brS)).length <= ((D.take k).map brS).length := List.length_filterMap_le _ _
    rw [List.length_map, List.length_take] at h2
    unfold Hid; omega
   clear hb5 hq5 hn5 HCA HBA HXB HNA HIS HS HNR b0 e0
   rcases hrd : rdS l b.s u with _ | q
   ·have HNX : Hid (NoS w3 l u D (mx + 1) (k + 1) u8 E w5) := ⟨HS5.out.bel, HS5.out.own, by
     rw [HTK.out, rd_app, show rdS l (brS b).1 u = none from hrd, HS5.out.brs]; simp, HS5.out.ent⟩
    simp only [Option.isSome_none]
    clear hrd HS5 HX5 HQ5 HN5
    go_wp2
    go_roundw
    case rel => exact ⟨k + 1, E, hlt, by go_num, HNX.out⟩
    case measure => simp [intOf]; omega
   ·have ho5 := HQ5.out q hrd
    obtain ⟨A5, c5, hv5, hc5, hr5⟩ := ho5.row
    subst hv5
    have HO5 : Hid (OwnIt w5 w3.heap.size (.slice A5 q.length c5) q) := ho5.lower HLA.out
    have HQL : Hid (q.length <= mx + 1) := by
     have h1 := rdS_len hrd
     have h2 := HF.out.2.2.1
     unfold Hid; omega
    have HKN : Hid (rdB l u ((D.take (k + 1)).map brS) = (E ++ [(⟨q, A5, c5, b.many⟩ : HdE)]).map brS) := by
     unfold Hid
     rw [HTK.out, rd_app, show rdS l (brS b).1 u = some q from hrd, List.map_append, HS5.out.brs]; rfl
    have HMB : Hid (1 <= b.many /\ b.many <= 2) := HF.out.2.2.2
    have b0 := HX5.out.cell 0
    have b1 := HX5.out.cell 1
    simp at b0 b1
    simp only [Option.isSome_some]
    clear ho5 hc5 hr5 hrd HQ5 HN5 HF
    have hb6 := (Below.refl w5.heap.size w5).alloc (Nat.le_refl _) (.cells #[.slice A5 q.length c5, .int .i64 (b.many : Int)] 41)
    have HS6 := Lib.hid (HS5.out.later hb6)
    have HO6 := Lib.hid (HO5.out.later hb6)
    have HX6 : Hid (Blk (w5.alloc (.cells #[.slice A5 q.length c5, .int .i64 (b.many : Int)] 41)) w5.heap.size (brC ⟨q, A5, c5, b.many⟩) 41) := Blk.new w5 #[.slice A5 q.length c5, .int .i64 (b.many : Int)] 41
    clear hb6
    go_wp2_with (at_builtin; refine wpList_append_br rfl _ _ rfl w3.heap.size u8 E rfl HS6.out.own w5.heap.size ⟨q, A5, c5, b.many⟩ rfl HX6.out (Nat.lt_of_le_of_lt HEL.out (by decide)) HS6.out.bel.size ?_; intro v7 w7 h7 hg7; have HNX : Hid (NoS w3 l u D (mx + 1) (k + 1) v7 (E ++ [⟨q, A5, c5, b.many⟩]) w7) := NoS.push HS6.out h7 hg7 HO6.out ⟨HQL.out, HMB.out⟩ HKN.out; clear h7 hg7)
    go_roundw
    case rel => exact ⟨k + 1, _, hlt, by go_num, HNX.out⟩
    case measure => simp [intOf]; omega
  ·obtain rfl : k = D.length := by omega
   have hltz : ¬ ((D.length : Nat) : Int) < (D.length : Int) := by omega
   have hel : E.length <= 60001 := by
    have h1 := congrArg List.length HS.out.brs
    rw [List.length_map] at h1
    have h2 : (rdB l u ((D.take D.length).map brS)).length <= ((D.take D.length).map brS).length := List.length_filterMap_le _ _
    rw [List.length_map, List.length_take] at h2
    omega
   have HTG := Lib.hid (nxTg_any E w3.heap.size w3.heap.size u8 wr HS.out.own HS.out.bel.size (fun e he => (HS.out.ent e he).1) (fun e he => by have := (HS.out.ent e he).2.1; omega) (by omega) (fun e he => (HS.out.ent e he).2.2))
   have HBB : Hid (Below w.heap.size w wr) := HNB.out.bel.trans (HS.out.bel.mono HNB.out.bel.size)
   have HVB : Hid (∀ g, u8.ownBlock = some g -> w.heap.size <= g) := fun g hg => Nat.le_trans HNB.out.bel.size (World.ownsRow.lt HS.out.own g hg).1
   have HBS : Hid (E.map brS = rdB l u (D.map brS)) := by have := HS.out.brs; rwa [List.take_length] at this
   have HEN : Hid (∀ d ∈ E, d.s.length <= mx + 1) := fun d hd => (HS.out.ent d hd).2.1
   clear HS hlt hel
   go_wp2_with fail
   refine HTG.out.mono ?_; rintro e w9 ⟨v9, D9, rfl, h1, h2, h3, h4⟩
   have HP : Hid (BrsP (brsL (onL l s u)) (mx + 1) w (.returned v9) w9) := by
    refine ⟨v9, D9, rfl, ?_, h2.lower HBB.out.size, fun d hd => ?_, HBB.out.grown h4 HBB.out.size HVB.out⟩
    ·rw [h1, HBS.out]; exact HON.out
    ·obtain ⟨⟨e, he, q1, q2, q3⟩, h5⟩ := h3 d hd
     exact ⟨h5.lower HNB.out.bel.size, by rw [q2]; exact HEN.out e he⟩
   clear h1 h2 h3 h4 HTG
   go_wp2
   go_ret
   exact HP.out
def frstB : Brs -> Nat
 | [] => 0
 | a :: _ => if a.1 = [] then a.2 else 0
theorem nil_first {L : Brs} (h : HdSrt L) : mnyB L [] = frstB L := by
 unfold frstB
 cases L with
 | nil => rfl
 | cons a L =>
  obtain ⟨s, k⟩ := a
  unfold mnyB
  by_cases e : s = []
  ·subst e; simp
  ·have : ¬ ([] : List Itm) = s := fun q => e q.symm
   rw [if_neg this]
   simp only [e, if_false]
   have h1 := (List.pairwise_cons.1 h).1
   clear h
   induction L with
   | nil => rfl
   | cons b L ih =>
    obtain ⟨t, m⟩ := b
    unfold mnyB
    have h2 : stC s t = -1 := h1 (t, m) (List.mem_cons_self ..)
    have : ¬ ([] : List Itm) = t := fun q => by
     subst q
     cases s with
     | nil => exact e rfl
     | cons x r =>
      have h3 := stC_len2 (a := x :: r) (b := []) (by simp)
      omega
    rw [if_neg this]
    exact ih fun a ha => h1 a (List.mem_cons_of_mem _ ha)
theorem nxEnds_any (l : List Nd) (A : Option Addr) (c : Nat) (s : List Itm) (B : Option Addr) (c2 : Nat) (hR : Rgt l) (hlen : l.length <= 300) (htx : Txt l) (hs : ∀ y ∈ s, HdF l y) (hsl : s.length <= 200) (w : World) (hrow : NRow w A l) (hss : ItRow w B s) :
 Calls Try.prog 22 #[.agg #[.slice A l.length c], .slice B s.length c2] w (Ans w (.int .i64 ((mnyB (hdsL l s) [] : Nat) : Int))) := by
 have hb1 := (Below.refl w.heap.size w).alloc (Nat.le_refl _) (.cells #[.slice A l.length c] 24)
 have HBX := Lib.hid (Blk.new w #[.slice A l.length c] 24)
 have HB1 := Lib.hid hb1
 have HH := Lib.hid (hdHeads_any l A c s B c2 hR hlen htx hs hsl (w.alloc (.cells #[.slice A l.length c] 24)) (hrow.later hb1) (hss.later hb1))
 have HSR : Hid (HdSrt (hdsL l s)) := hds_srt l s
 obtain ⟨z, hz⟩ : ∃ z, mnyB (hdsL l s) [] = z := ⟨_, rfl⟩
 have HZZ := Lib.hid hz
 rw [hz]
 clear hb1 hrow hss hs htx hz
 go_enter Try.func22, Try.ntmps22
 go_upto_region 1 with (fail)
 generalize w.alloc (.cells #[.slice A l.length c] 24) = w1 at *
 have e0 := HBX.out.cell 0
 simp at e0
 go_wp2_with fail
 refine HH.out.mono ?_; rintro e w3 ⟨vD, D, rfl, hbr, hoD, hoE, hb3, -⟩
 obtain ⟨AD, cD, rfl, -, hrD⟩ := hoD.row
 have HB3 := Lib.hid (HB1.out.trans (hb3.mono HB1.out.size))
 have HRD := Lib.hid hrD
 have HZ : Hid (z = frstB (D.map brS)) := by
  have h1 : HdSrt (D.map brS) := by rw [hbr]; exact HSR.out
  have h2 := nil_first h1
  exact HZZ.out.symm.trans ((congrArg (fun L => mnyB L []) hbr.symm).trans h2)
 clear hbr hoD hoE hb3 hrD HH HSR HZZ HB1 HBX
 cases D with
 | nil =>
  have HZ0 : Hid (z = 0) := HZ.out
  simp only [List.length_nil]
  clear HZ
  go_wp2
  go_ret
  exact ⟨by rw [HZ0.out]; rfl, HB3.out⟩
 | cons b D =>
  obtain ⟨bd, od, hA, hbd, hcd⟩ := HRD.out 0 (by simp)
  subst hA
  have d0 : w3.cell? ⟨bd, od, none⟩ = some (.slice b.A b.s.length b.cap) := by have := hcd 0 (by decide); simpa [brC] using this
  have d1 : w3.cell? ⟨bd, od + 1, none⟩ = some (.int .i64 (b.many : Int)) := by have := hcd 1 (by decide); simpa [brC] using this
  obtain ⟨n, hn⟩ : ∃ n, (b :: D).length = n := ⟨_, rfl⟩
  have hn1 : 0 < n := by rw [<- hn]; simp
  have hnz : (0 : Int) < (n : Int) := by omega
  have hng : decide ((n : Int) > 0) = true := by rw [decide_eq_true_iff]; omega
  have hng2 : (n : Int) > 0 := by omega
  rw [hn]
  clear hn hcd HRD hbd
  by_cases he : b.s = []
  ·have HZ0 : Hid (z = b.many) := by
    unfold Hid; rw [HZ.out]
    show (if b.s = [] then b.many else 0) = _
    rw [if_pos he]
   have hbl : (((b.s.length : Nat) : Int) == 0) = true := by rw [he]; rfl
   have hbl2 : b.s.length = 0 := by rw [he]; rfl
   clear HZ he
   generalize b.s.length = m at *
   go_wp2
   go_ret
   exact ⟨by rw [HZ0.out]; rfl, HB3.out⟩
  ·have HZ0 : Hid (z = 0) := by
    unfold Hid; rw [HZ.out]
    show (if b.s = [] then b.many else 0) = _
    rw [if_neg he]
   have hbl2 : ¬ b.s.length = 0 := fun q => he (List.length_eq_zero_iff.1 q)
   have hbl : (((b.s.length : Nat) : Int) == 0) = false := by rw [beq_eq_false_iff_ne]; omega
   have hbl3 : ¬ ((b.s.length : Nat) : Int) = 0 := by omega
   clear HZ he
   generalize b.s.length = m at *
   go_wp2
   go_ret
   exact ⟨by rw [HZ0.out]; rfl, HB3.out⟩
theorem flat4_ones : ∀ (l : List (BitVec 256)) (u : Value), u ∈ flat4 l -> u.oneCell' = true
 | [], u, h => by cases h
 | t :: l, u, h => by
  simp only [flat4, List.mem_cons] at h
  rcases h with rfl | rfl | rfl | rfl | h
  ·rfl
  ·rfl
  ·rfl
  ·rfl
  ·exact flat4_ones l u h
theorem LRow.news {w : World} {b oo : Nat} {r : List (BitVec 256)} (hr : LRow w (some ⟨b, oo, none⟩) r) : ∀ (j : Nat) (u : Value), (flat4 r)[j]? = some u -> w.cell? ((⟨b, oo, none⟩ : Addr).add j) = some u := by
 intro j u hu
 have hj : j < r.length * 4 := by rw [<- flat4_length]; exact (List.getElem?_eq_some_iff.1 hu).1
 have hd : j / 4 < r.length := by omega
 obtain ⟨b', off, hA, _, hc⟩ := hr (j / 4) hd
 cases hA
 have h1 := hc (j % 4) (Nat.mod_lt _ (by decide))
 rw [<- flat4_get r (j / 4) (j % 4) hd (Nat.mod_lt _ (by decide)), show j / 4 * 4 + j % 4 = j by omega, hu] at h1
 have hadd : (⟨b, oo, none⟩ : Addr).add j = ⟨b, oo + j, none⟩ := by unfold Addr.add; split <;> simp_all
 rw [hadd, <- h1]; congr 2; omega
theorem LRow.one {w : World} {b : Nat} {t : BitVec 256} (h : Blk w b (cells4 t) 35) : LRow w (some ⟨b, 0, none⟩) [t] := fun i hi => by
 have hi : i < 1 := hi
 obtain rfl : i = 0 := by omega
 refine ⟨b, 0, rfl, h.lt, fun j hj => ?_⟩
 rw [h.cell]
 rcases (by omega : j = 0 \/ j = 1 \/ j = 2 \/ j = 3) with rfl | rfl | rfl | rfl <;> rfl
theorem cls_append_empty (w : World) (V : Option Addr) (n cap : Nat) (A : Option Addr) (c : Nat) (t : TypeId) (hn : n <= cap) (hV : V = none -> n = 0 /\ cap = 0) : (Builtin.append_ #[30, 30] t #[.slice V n cap, .slice A 0 c]).run Try.prog w = .ok (.slice V n cap) w := by
 obtain ⟨ib, hib, hz0, hz1, hz2⟩ := info_parts infoCls
 cases V with
 | none =>
  obtain ⟨rfl, rfl⟩ := hV rfl
  cases A with
  | none => simp [Builtin.append_, run_underlying Try.underlying30, sizeOf, typeInfo, hib, Builtin.lenOf, Builtin.firstCells, storeCells]
  | some x =>
   have hf := run_firstCells_some (P := Try.prog) w ib.size 0 x 0 c [] (by simp) (by simp)
   simp [Builtin.append_, run_underlying Try.underlying30, sizeOf, typeInfo, hib, Builtin.lenOf, hf, storeCells]
 | some y =>
  cases A with
  | none => simp [Builtin.append_, run_underlying Try.underlying30, sizeOf, typeInfo, hib, Builtin.lenOf, Builtin.firstCells, storeCells, hn]
  | some x =>
   have hf := run_firstCells_some (P := Try.prog) w ib.size 0 x 0 c [] (by simp) (by simp)
   simp [Builtin.append_, run_underlying Try.underlying30, sizeOf, typeInfo, hib, Builtin.lenOf, hf, storeCells, hn]
theorem wp_append_clsL {w : World} {o : Oper} {a : Act} {K : Act -> World -> Prop} {Q : Exit -> Act -> World -> Prop} (s x : Operand)
 (ho : o.op = .call { callee := .builtin .append, args := #[s, x], argTypes := #[30, 30] })
 (base : Nat) (v : Value) (l : List (BitVec 256)) (hs : a.eval s = v) (hown : OwnC w base v l)
 (A : Option Addr) (c : Nat) (r : List (BitVec 256)) (hx : a.eval x = .slice A r.length c) (hr : LRow w A r) (hlen : l.length + r.length < 1073741824) (hbase : base <= w.heap.size)
 (h : ∀ v' w', OwnC w' base v' (l ++ r) -> w.grownBy w' v.ownBlock -> K (a.put o.dst v') w') : o.wp Try.prog a w K Q := by
 by_cases hne : 0 < r.length
 ·obtain ⟨b, off, rfl, -, -⟩ := hr 0 hne
  obtain ⟨ib, hib, hz0, hz1, hz2⟩ := info_parts infoCls
  obtain ⟨v', w', hrun, h2, h3, _⟩ := run_append_own (P := Try.prog) w base 30 o.type 35 ib _ 4 32 Try.underlying30 hib hz0 hz1 hz2 rfl (by decide) v l.length (flat4 l) hown ⟨b, off, none⟩ r.length c (flat4 r) (by rw [flat4_length]) hr.news (flat4_ones r) (by unfold maxLen; omega) (by omega) hbase
  unfold Oper.wp execOp
  simp only [ho, resolve, invoke, builtin, Sem.run_bind, Sem.run_pure, Result.andThen_ok, List.map_toArray, List.map_cons, List.map_nil, hs, hx, hrun]
  exact h v' w' (by unfold OwnC; rw [List.length_append, flat4_append]; exact h2) h3
 ·have hl : r = [] := List.length_eq_zero_iff.1 (by omega)
  subst hl
  have hrun : (Builtin.append_ #[30, 30] o.type #[v, .slice A 0 c]).run Try.prog w = .ok v w := by
   obtain ⟨_, ⟨hv, hn⟩ | ⟨g, cap, cur, hv, hb, hg, hc, hm, hs2, ht⟩⟩ := hown
   ·rw [hv]; exact cls_append_empty w none 0 0 A c o.type (Nat.le_refl _) (fun _ => ⟨rfl, rfl⟩)
   ·rw [hv]; exact cls_append_empty w _ _ _ A c o.type hc (fun e => by cases e)
  unfold Oper.wp execOp
  simp only [ho, resolve, invoke, builtin, Sem.run_bind, Sem.run_pure, Result.andThen_ok, List.map_toArray, List.map_cons, List.map_nil, hs, hx, List.length_nil, hrun]
  exact h v w (by rw [List.append_nil]; exact hown) (World.grownBy.refl _ _)
theorem wpList_append_clsL {w : World} {ops : Array Oper} {rest : List Oper} {o : Oper} {a : Act} {Q : Exit -> Act -> World -> Prop} (hgd : o.guard = none) (s x : Operand)
 (ho : o.op = .call { callee := .builtin .append, args := #[s, x], argTypes := #[30, 30] })
 (base : Nat) (v : Value) (l : List (BitVec 256)) (hs : a.eval s = v) (hown : OwnC w base v l)
 (A : Option Addr) (c : Nat) (r : List (BitVec 256)) (hx : a.eval x = .slice A r.length c) (hr : LRow w A r) (hlen : l.length + r.length < 1073741824) (hbase : base <= w.heap.size)
 (h : ∀ v' w', OwnC w' base v' (l ++ r) -> w.grownBy w' v.ownBlock -> wpList Try.prog ops Q rest (a.put o.dst v') w') : wpList Try.prog ops Q (o :: rest) a w :=
 wpList_plain hgd fun K hK => wp_append_clsL s x ho base v l hs hown A c r hx hr hlen hbase fun v' w' h1 h2 => hK _ _ (h v' w' h1 h2)
theorem wpList_make_clsL {w : World} {ops : Array Oper} {rest : List Oper} {o : Oper} {a : Act} {Q : Exit -> Act -> World -> Prop} (hgd : o.guard = none) (l c : Operand) (hop : o.op = Op.makeSlice 30 l c)
 (C : Int) (n : Nat) (hl : a.eval l = .int .i64 0) (hc : a.eval c = .int .i64 C) (hC : C = (n : Int)) (hn : n <= 1073741824)
 (hK : ∀ w', OwnC w' w.heap.size (.slice (some ⟨w.heap.size, 0, none⟩) 0 n) [] -> Below w.heap.size w w' -> wpList Try.prog ops Q rest (a.put o.dst (.slice (some ⟨w.heap.size, 0, none⟩) 0 n)) w') : wpList Try.prog ops Q (o :: rest) a w := by
 obtain ⟨ib, hib, hz0, hz1, hz2⟩ := info_parts infoCls
 exact wpList_make_own w hgd l c 30 hop w.heap.size 35 ib _ 4 Try.underlying30 hib hz0 hz1 .i64 .i64 C n hl hc hC (by rw [hz2]; omega) (by unfold maxLen; omega) (Nat.le_refl _)
  fun w' h1 h2 => hK w' h1 ⟨h2.os, h2.tape, h2.output, h2.size, fun k hk => h2.block k hk (by simp)⟩
theorem sg_row : ∀ n, n < 256 -> rowB n n = sgC (UInt8.ofNat n) := by decide +kernel
def eachC (k : Nat) : List (BitVec 256) := (List.range k).map fun b => sgC (UInt8.ofNat b)
theorem each_succ (k : Nat) : eachC (k + 1) = eachC k ++ [sgC (UInt8.ofNat k)] := by unfold eachC; rw [List.range_succ, List.map_append]; rfl
theorem each_len (k : Nat) : (eachC k).length = k := by unfold eachC; simp
structure NeS (w0 : World) (k : Nat) (v : Value) (w : World) : Prop where
 bel : Below w0.heap.size w0 w
 own : OwnC w w0.heap.size v (eachC k)
def NeL (w0 : World) (v i : Value) (w : World) : Prop := ∃ k : Nat, k <= 256 /\ i = .int .i64 (k : Int) /\ NeS w0 k v w
theorem NeS.push {w0 w w' : World} {k : Nat} {v v' : Value} (h : NeS w0 k v w) (h1 : OwnC w' w0.heap.size v' (eachC k ++ [sgC (UInt8.ofNat k)])) (hg : w.grownBy w' v.ownBlock) : NeS w0 (k + 1) v' w' :=
 ⟨h.bel.grown hg h.bel.size (fun q hq => (World.ownsRow.lt h.own q hq).1), by rw [each_succ]; exact h1⟩
theorem NeS.later {w0 w w' : World} {k : Nat} {v : Value} (h : NeS w0 k v w) (hb : Below w.heap.size w w') : NeS w0 k v w' := ⟨h.bel.trans (hb.mono h.bel.size), h.own.later hb⟩
def ClsP (L : List (BitVec 256)) (w : World) (e : Ending) (w' : World) : Prop := ∃ v, e = .returned v /\ OwnC w' w.heap.size v L /\ Below w.heap.size w w'
theorem nxEach_any (w : World) : Calls Try.prog 50 #[] w (ClsP (eachC 256) w) := by
 go_enter Try.func50, Try.ntmps50
 go_upto_region 2 with (refine wpList_make_clsL rfl _ _ rfl 256 256 rfl rfl rfl (by omega) ?_; intro w1 ho1 hb1; have HO1 := Lib.hid ho1; have HB1 := Lib.hid hb1; clear ho1 hb1)
 have HS0 : Hid (NeS w 0 (.slice (some ⟨w.heap.size, 0, none⟩) 0 256) w1) := ⟨HB1.out, HO1.out⟩
 clear HO1 HB1
 go_wp2
 go_loopw [1, 4] (NeL w) (fun _ i _ => 256 - (intOf i).toNat)
 case atStart => exact ⟨0, by omega, rfl, HS0.out⟩
 case round =>
  obtain ⟨k, hk, rfl, hs⟩ := hrel
  have HS := Lib.hid hs
  clear hs HS0
  by_cases hlt : k < 256
  ·have hltz : (k : Int) < 256 := by omega
   have hkm : (k : Int) % 256 = (k : Int) := by omega
   have HOF := Lib.hid (of_any k k hlt hlt wr)
   rw [sg_row k hlt] at HOF
   go_wp2_with fail
   refine HOF.out.mono ?_; rintro e w2 ⟨rfl, hb2⟩
   have HS2 := Lib.hid (HS.out.later hb2)
   unfold cls
   have hb3 := (Below.refl w2.heap.size w2).alloc (Nat.le_refl _) (.cells (cells4 (sgC (UInt8.ofNat k))) 35)
   have HS3 := Lib.hid (HS2.out.later hb3)
   have HX3 := Lib.hid (Blk.new w2 (cells4 (sgC (UInt8.ofNat k))) 35)
   have HEL : Hid ((eachC k).length + [sgC (UInt8.ofNat k)].length < 1073741824) := by unfold Hid; rw [each_len]; simp; omega
   clear hb2 hb3 HOF
   generalize hsg : sgC (UInt8.ofNat k) = S at *
   have HSG := Lib.hid hsg
   clear hsg
   unfold cells4 at HS3 HX3
   go_wp2_with (at_builtin; refine wpList_append_clsL rfl _ _ rfl w.heap.size _ (eachC k) rfl HS3.out.own (some ⟨w2.heap.size, 0, none⟩) 1 [S] rfl (LRow.one HX3.out) HEL.out HS3.out.bel.size ?_; intro v7 w7 h7 hg7; have HNX : Hid (NeS w (k + 1) v7 w7) := NeS.push HS3.out (by rw [HSG.out]; exact h7) hg7; clear h7 hg7)
   go_roundw
   case rel => exact ⟨k + 1, hlt, by go_num, HNX.out⟩
   case measure => simp [intOf]; omega
  ·obtain rfl : k = 256 := by omega
   go_wp2
   go_ret
   exact ⟨_, rfl, HS.out.own, HS.out.bel⟩
def NxRwP (L : List (BitVec 256)) (w : World) (e : Ending) (w' : World) : Prop := ∃ v, e = .returned v /\ IsRow L v w' /\ Below w.heap.size w w'
theorem clT_k3 {l : List Nd} {x : Itm} {r : List Itm} (h : x.kind = 3) : clT l (x :: r) = [sgC ((atN l x.node.toNat).text.getD x.lo.toNat 0)] := by
 unfold clT; simp only; rw [if_pos h]
theorem clT_k2 {l : List Nd} {x : Itm} {r : List Itm} (h : x.kind = 1) (h2 : (atN l x.node.toNat).kind = 2) : clT l (x :: r) = [(atN l x.node.toNat).cls] := by
 unfold clT; simp only; rw [if_neg (by omega), if_pos ⟨h, h2⟩]
theorem clT_each {l : List Nd} {x : Itm} {r : List Itm} (h : x.kind ≠ 3) (h2 : ¬ (x.kind = 1 /\ (atN l x.node.toNat).kind = 2)) : clT l (x :: r) = eachC 256 := by
 unfold clT; simp only; rw [if_neg h, if_neg h2]; rfl
theorem sg_self (u : UInt8) : rowB u.toNat u.toNat = sgC u := by
 rw [sg_row u.toNat u.toNat_lt]; congr 1; simp
structure NxcS (w0 : World) (A : Option Addr) (l : List Nd) (c : Nat) (x : Itm) (n : Nd) (bn : Nat) (w : World) : Prop where
 bel : Below w0.heap.size w0 w
 bx : Blk w (w0.heap.size + 1) (itV x) 44
 bn : Blk w bn (ndC n) 58
theorem nxCo_any (l : List Nd) (A : Option Addr) (c : Nat) (x : Itm) (h0 : 0 < l.length) (hlen : l.length <= 1073741824) (htx : Txt l) (hx : HdF l x) (hrd : rdyS l [x] = true) (w : World) (hrow : NRow w A l) :
 Calls Try.prog 31 #[.agg #[.slice A l.length c], .agg (itV x)] w (NxRwP (clT l [x]) w) := by
 obtain ⟨i, hil, hin⟩ := hx.inl h0
 have hti : (atN l i).text.length <= 281474976710656 := htx _ (by
  unfold atN; rw [List.getD_eq_getElem?_getD, List.getElem?_eq_getElem hil]; exact List.getElem_mem _)
 obtain ⟨L, hL⟩ : ∃ L, clT l [x] = L := ⟨_, rfl⟩
 have HL := Lib.hid hL
 rw [hL]
 have H3 : Hid (x.kind = 3 -> 0 <= x.lo /\ x.lo < ((atN l i).text.length : Int) /\ L = [sgC ((atN l i).text.getD x.lo.toNat 0)]) := fun h => by
  obtain ⟨-, -, q3, q4⟩ := hx.three h
  rw [hin, Int.toNat_natCast] at q4
  refine ⟨q3, q4, ?_⟩
  rw [<- hL, clT_k3 h, hin, Int.toNat_natCast]
 have H2 : Hid (x.kind = 1 -> (atN l i).kind = 2 -> L = [(atN l i).cls]) := fun h h2 => by
  rw [<- hL, clT_k2 h (by rw [hin, Int.toNat_natCast]; exact h2), hin, Int.toNat_natCast]
 have HE0 : Hid (x.kind ≠ 3 -> ¬ (x.kind = 1 /\ (atN l i).kind = 2) -> L = eachC 256) := fun h h2 => by
  rw [<- hL, clT_each h (by rw [hin, Int.toNat_natCast]; exact h2)]
 have HS := Lib.hid (HfS.new c x hrow)
 have HN := Lib.hid (fun (w' : World) (h : NRow w' A l) => nxNode_any l A c x i hil hin hlen w' h)
 have HTB : Hid (∀ w', 0 <= x.lo -> x.lo < ((atN l i).text.length : Int) -> Calls Try.prog 48 #[.agg (ndC (atN l i)), .agg (itV x)] w' (Ans w' (.tuple #[.int .u8 (((atN l i).text.getD x.lo.toNat 0).toNat : Int), .bool true]))) := fun w' h1 h2 => nxByte_any (atN l i) x h1 h2 w'
 clear hL hrow hx hrd htx hin
 generalize atN l i = n at *
 obtain ⟨kk, nn, lo, hi⟩ := x
 simp only at H3 H2 HE0 HTB
 go_enter Try.func31, Try.ntmps31
 go_upto_region 1 with (fail)
 unfold itV at HS HN HTB ⊢
 simp only at HS HN HTB ⊢
 generalize (w.alloc (.cells #[.slice A l.length c] 24)).alloc (.cells #[.int .i64 kk, .int .i64 nn, .int .i64 lo, .int .i64 hi] 44) = w1 at HS ⊢
 have x0 := HS.out.it.cell 0
 have x1 := HS.out.it.cell 1
 have x2 := HS.out.it.cell 2
 have x3 := HS.out.it.cell 3
 have e0 := HS.out.s.box.cell 0
 simp [itV] at x0 x1 x2 x3 e0
 go_wp2_with fail
 refine (HN.out _ HS.out.s.row).mono ?_; rintro e w2 ⟨rfl, hb2⟩
 have HB2 := Lib.hid (HS.out.s.bel.trans (hb2.mono HS.out.s.bel.size))
 have HX2 := Lib.hid (HS.out.it.later hb2)
 have hb3 := (Below.refl w2.heap.size w2).alloc (Nat.le_refl _) (.cells (ndC n) 58)
 have HS4 : Hid (NxcS w A l c ⟨kk, nn, lo, hi⟩ n w2.heap.size (w2.alloc (.cells (ndC n) 58))) := ⟨HB2.out.trans (hb3.mono HB2.out.size), HX2.out.later hb3, Blk.new _ _ _⟩
 clear hb2 hb3 x0 x1 x2 x3 e0 HN HB2 HX2 HS
 obtain ⟨nk, na, nb, nlo, nhi, ncls, ntext⟩ := n
 simp only at H3 H2 HE0 HTB
 unfold ndC at HTB HS4 ⊢
 simp only at HTB HS4 ⊢
 go_upto_region 2 with (fail)
 generalize w2.alloc (.cells #[.int .i64 nk, .int .i64 na, .int .i64 nb, .int .i64 nlo, .int .i64 nhi, .int .u64 (wd ncls 0), .int .u64 (wd ncls 1), .int .u64 (wd ncls 2), .int .u64 (wd ncls 3), .string (bs ntext)] 58) = w4 at *
 generalize w2.heap.size = bn at *
 have gg := HS4.out.bn
 obtain ⟨g0, g1, g2, g3, g4, g5, g6, g7, g8, g9⟩ := ten_cells gg
 have hit := HS4.out.bx
 unfold itV at hit
 simp only at hit
 have x0 := hit.cell 0
 have x1 := hit.cell 1
 have x2 := hit.cell 2
 have x3 := hit.cell 3
 simp at x0 x1 x2 x3
 clear gg hit
 by_cases h3 : kk = 3
 ·obtain ⟨q1, q2, q3⟩ := H3.out h3
  have HCL := Lib.hid q3
  have HTT := Lib.hid (HTB.out w4 q1 q2)
  clear q1 q2 q3 H3 H2 HE0 HTB
  subst h3
  generalize ntext.getD lo.toNat 0 = u at *
  have HOF := Lib.hid (fun w => of_any u.toNat u.toNat u.toNat_lt u.toNat_lt w)
  rw [sg_self u] at HOF
  generalize bs ntext = T at *
  go_wp2_with fail
  refine HTT.out.mono ?_; rintro e w5 ⟨rfl, hb5⟩
  have HB5 := Lib.hid (HS4.out.bel.trans (hb5.mono HS4.out.bel.size))
  clear hb5 HTT HS4 g0 g1 g2 g3 g4 g5 g6 g7 g8 g9 x0 x1 x2 x3
  go_wp2_with fail
  refine (HOF.out _).mono ?_; rintro e w6 ⟨rfl, hb6⟩
  have HB6 := Lib.hid (HB5.out.trans (hb6.mono HB5.out.size))
  unfold cls
  have hb7 := (Below.refl w6.heap.size w6).alloc (Nat.le_refl _) (.cells (cells4 (sgC u)) 35)
  have HX7 := Lib.hid (Blk.new w6 (cells4 (sgC u)) 35)
  have HB7 := Lib.hid (HB6.out.trans (hb7.mono HB6.out.size))
  clear hb6 hb7 HOF HB5 HB6
  go_wp2
  go_ret
  exact ⟨_, rfl, by rw [HCL.out]; exact ⟨_, _, rfl, LRow.one HX7.out⟩, HB7.out⟩
 ·have h3z : (kk == 3) = false := by rw [beq_eq_false_iff_ne]; exact h3
  have HE := Lib.hid (nxEach_any w4)
  by_cases h1 : kk = 1
  ·by_cases hk : nk = 2
   ·have HCL := Lib.hid (H2.out h1 hk)
    clear H3 H2 HE0 HTB h3 HE
    subst h1
    subst hk
    have hb7 := (Below.refl w4.heap.size w4).alloc (Nat.le_refl _) (.cells (cells4 ncls) 35)
    have HX7 := Lib.hid (Blk.new w4 (cells4 ncls) 35)
    have HB7 := Lib.hid (HS4.out.bel.trans (hb7.mono HS4.out.bel.size))
    clear hb7
    unfold cells4 at HX7 HB7
    go_wp2
    go_ret
    exact ⟨_, rfl, by rw [HCL.out]; exact ⟨_, _, rfl, LRow.one HX7.out⟩, HB7.out⟩
   ·have HCL := Lib.hid (HE0.out h3 (fun h => hk h.2))
    have hkz : (nk == 2) = false := by rw [beq_eq_false_iff_ne]; exact hk
    clear H3 H2 HE0 HTB h3
    subst h1
    go_wp2_with fail
    refine HE.out.mono ?_; rintro e w9 ⟨v9, rfl, ho9, hb9⟩
    have HO9 := Lib.hid ho9.isRow
    have HB9 := Lib.hid (HS4.out.bel.trans (hb9.mono HS4.out.bel.size))
    clear ho9 hb9 HE
    go_wp2
    go_ret
    exact ⟨_, rfl, by rw [HCL.out]; exact HO9.out, HB9.out⟩
  ·have HCL := Lib.hid (HE0.out h3 (fun h => h1 h.1))
   have h1z : (kk == 1) = false := by rw [beq_eq_false_iff_ne]; exact h1
   clear H3 H2 HE0 HTB
   go_wp2_with fail
   refine HE.out.mono ?_; rintro e w9 ⟨v9, rfl, ho9, hb9⟩
   have HO9 := Lib.hid ho9.isRow
   have HB9 := Lib.hid (HS4.out.bel.trans (hb9.mono HS4.out.bel.size))
   clear ho9 hb9 HE
   go_wp2
   go_ret
   exact ⟨_, rfl, by rw [HCL.out]; exact HO9.out, HB9.out⟩
end Go.Proofs.Ytidoofdofdhjpaa
