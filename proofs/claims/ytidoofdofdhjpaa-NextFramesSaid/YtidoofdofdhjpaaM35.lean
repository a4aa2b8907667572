/- The twin of layer 14: what fits, what is ready. -/
import Derived.Test.YtidoofdofdhjpaaM32
import Derived.Test.YtidoofdofdhjpaaM14
import Derived.Test.YtidoofdofdhjpaaM34
namespace Go.Proofs.Ytidoofdofdhjpaa
open Go Go.RowKit
set_option linter.unusedVariables false
set_option linter.unusedSimpArgs false
set_option maxRecDepth 1000000
set_option maxHeartbeats 64000000
end Go.Proofs.Ytidoofdofdhjpaa
namespace Go.Proofs.Ytidoofdofdhjpaa
open Go Go.RowKit
set_option linter.unusedVariables false
set_option linter.unusedSimpArgs false
def adR (s : List Itm) (m : Nat) (p : Brs × Bool) (a : List Itm × Nat) : Brs × Bool :=
 if stC s a.1 = 0 then (p.1 ++ [(s, min 2 (a.2 + m))], true)
 else if stC s a.1 < 0 /\ p.2 = false then ((p.1 ++ [(s, m)]) ++ [a], true)
 else (p.1 ++ [a], p.2)
def adS (s : List Itm) (m : Nat) (T : Brs) : Brs × Bool := T.foldl (adR s m) ([], false)
theorem ad_done {s : List Itm} {m : Nat} : ∀ {L P : Brs}, (∀ a ∈ L, stC s a.1 = -1) -> L.foldl (adR s m) (P, true) = (P ++ L, true)
 | [], P, _ => by simp
 | a :: L, P, h => by
  have h1 := h a (List.mem_cons_self ..)
  rw [List.foldl_cons, show adR s m (P, true) a = (P ++ [a], true) by unfold adR; rw [if_neg (by omega), if_neg (by simp)], ad_done fun b hb => h b (List.mem_cons_of_mem _ hb)]
  simp
def adE (s : List Itm) (m : Nat) (p : Brs × Bool) : Brs := if p.2 = true then p.1 else p.1 ++ [(s, m)]
theorem ad_all {s : List Itm} {m : Nat} : ∀ {L P : Brs}, HdSrt L -> adE s m (L.foldl (adR s m) (P, false)) = P ++ addB L s m
 | [], P, _ => by unfold adE; simp [addB]
 | (t, k) :: L, P, h => by
  obtain ⟨h1, h2⟩ := List.pairwise_cons.1 h
  simp only at h1
  rw [List.foldl_cons]
  by_cases e : s = t
  ·subst e
   rw [show adR s m (P, false) (s, k) = (P ++ [(s, min 2 (k + m))], true) by unfold adR; rw [if_pos (stC_self s)], ad_done h1]
   unfold adE addB
   simp
  ·have h0 : ¬ stC s t = 0 := fun q => e ((stC_zero s t).1 q)
   by_cases g : stC s t = -1
   ·rw [show adR s m (P, false) (t, k) = ((P ++ [(s, m)]) ++ [(t, k)], true) by unfold adR; rw [if_neg h0, if_pos ⟨by simp only; omega, rfl⟩], ad_done fun b hb => stC_trans g (h1 b hb)]
    unfold adE addB
    rw [if_neg e, if_pos g]
    simp
   ·have g1 : stC s t = 1 := by rcases stC_three s t with q | q | q <;> first | exact absurd q g | exact absurd q h0 | exact q
    rw [show adR s m (P, false) (t, k) = (P ++ [(t, k)], false) by unfold adR; rw [if_neg h0, if_neg (by simp only; omega)], ad_all h2]
    conv => rhs; unfold addB
    rw [if_neg e, if_neg g]
    simp
theorem ad_is {s : List Itm} {m : Nat} {T : Brs} (h : HdSrt T) : adE s m (adS s m T) = addB T s m := by
 have := ad_all (s := s) (m := m) (P := []) h
 rw [List.nil_append] at this; exact this
theorem ad_step {s : List Itm} {m : Nat} {D : List HdE} {j : Nat} (hj : j < D.length) : adS s m ((D.take (j + 1)).map brS) = adR s m (adS s m ((D.take j).map brS)) (brS (D.getD j hd0)) := by
 have hg : D.getD j hd0 = D[j] := by rw [List.getD_eq_getElem?_getD, List.getElem?_eq_getElem hj]; rfl
 rw [List.take_succ_eq_append_getElem hj, List.map_append, hg]
 unfold adS
 rw [List.foldl_append]
 rfl
theorem ad_len {s : List Itm} {m : Nat} : ∀ {L : Brs} {p : Brs × Bool}, (L.foldl (adR s m) p).1.length <= p.1.length + L.length + (if p.2 = true then 0 else 1)
 | [], p => by simp
 | a :: L, p => by
  have h1 := ad_len (s := s) (m := m) (L := L) (p := adR s m p a)
  have h2 : (adR s m p a).1.length + (if (adR s m p a).2 = true then 0 else 1) <= p.1.length + 1 + (if p.2 = true then 0 else 1) := by
   unfold adR
   by_cases h0 : stC s a.1 = 0
   ·rw [if_pos h0]; simp
   ·rw [if_neg h0]
    by_cases h3 : stC s a.1 < 0 /\ p.2 = false
    ·rw [if_pos h3]; simp [h3.2]
    ·rw [if_neg h3]; simp
  rw [List.foldl_cons, List.length_cons]; omega
theorem hd_mem {D : List HdE} {j : Nat} (hj : j < D.length) : D.getD j hd0 ∈ D := by
 rw [List.getD_eq_getElem?_getD, List.getElem?_eq_getElem hj]; exact List.getElem_mem hj
theorem hd_here {D : List HdE} {j : Nat} (hj : j < D.length) : D[j]? = some (D.getD j hd0) := by
 rw [List.getD_eq_getElem?_getD, List.getElem?_eq_getElem hj]; rfl
set_option maxRecDepth 1000000
set_option maxHeartbeats 64000000
structure HdaS (w0 : World) (O : List HdE) (v : Value) (w : World) : Prop where
 bel : Below w0.heap.size w0 w
 own : OwnBr w w0.heap.size v O
 its : ∀ e ∈ O, (e.s.length <= e.cap /\ e.s.length <= 1000) /\ ItRow w0 e.A e.s
theorem HdaS.later {w0 w w' : World} {O : List HdE} {v : Value} (h : HdaS w0 O v w) (hb : Below w.heap.size w w') : HdaS w0 O v w' := ⟨h.bel.trans (hb.mono h.bel.size), h.own.later hb, h.its⟩
theorem HdaS.more {w0 w w' : World} {O : List HdE} {v v' : Value} {p : HdE} (h : HdaS w0 O v w) (hp : (p.s.length <= p.cap /\ p.s.length <= 1000) /\ ItRow w0 p.A p.s) (ho : OwnBr w' w0.heap.size v' (O ++ [p])) (hg : w.grownBy w' v.ownBlock) : HdaS w0 (O ++ [p]) v' w' :=
 ⟨h.bel.grown hg h.bel.size (fun k hk => (World.ownsRow.lt h.own k hk).1), ho, fun e he => by
  rcases List.mem_append.1 he with he | he
  ·exact h.its e he
  ·rw [List.mem_singleton.1 he]; exact hp⟩
def HdaL (w0 : World) (s : List Itm) (m : Nat) (D : List HdE) (v dn i : Value) (w : World) : Prop :=
 ∃ (j : Nat) (O : List HdE), j <= D.length /\ i = .int .i64 (j : Int) /\ dn = .bool (adS s m ((D.take j).map brS)).2 /\ O.map brS = (adS s m ((D.take j).map brS)).1 /\ HdaS w0 O v w
def AddO (T : Brs) (w : World) (e : Ending) (w' : World) : Prop := ∃ v, e = .returned v /\ BrV T v w' /\ Below w.heap.size w w'
theorem ads_end {w0 w : World} {T : Brs} {O : List HdE} {v : Value} (h : HdaS w0 O v w) (ho : O.map brS = T) : BrV T v w := by
 obtain ⟨A, cap, rfl, -, hr⟩ := h.own.row
 exact ⟨A, cap, O, rfl, ho, hr, fun d hd => (h.its d hd).1, fun d hd => (h.its d hd).2.later h.bel⟩
theorem radd14_any (T : Brs) (A : Option Addr) (D : List HdE) (c : Nat) (s : List Itm) (SA : Option Addr) (sc m : Nat) (hT : HdSrt T) (hP : PosB T) (hl : D.length <= 1000000000) (hm1 : 1 <= m) (hm2 : m <= 2) (hsc : s.length <= sc) (hsl : s.length <= 1000) (w : World) (h : BrA T A D w) (hs : ItRow w SA s) :
 Calls Try.prog 23 #[.slice A D.length c, .slice SA s.length sc, .int .i64 (m : Int)] w (AddO (addB T s m) w) := by
 have hbr := h.brs
 have HE : Hid (adE s m (adS s m ((D.take D.length).map brS)) = addB T s m) := by unfold Hid; rw [List.take_length, hbr, ad_is hT]
 have HM : Hid (∀ d ∈ D, 1 <= d.many /\ d.many <= 2) := fun d hd => hP (brS d) (by rw [<- hbr]; exact List.mem_map_of_mem hd)
 have HH := Lib.hid h
 have HSR := Lib.hid hs
 have HLN : Hid (∀ (j : Nat) (O : List HdE), O.map brS = (adS s m ((D.take j).map brS)).1 -> O.length <= 1000000001) := fun j O ho => by
  have h1 := congrArg List.length ho
  have h2 := ad_len (s := s) (m := m) (L := (D.take j).map brS) (p := ([], false))
  rw [List.length_map] at h1 h2
  rw [List.length_take] at h2
  simp only [List.length_nil] at h2
  rw [if_neg (by simp)] at h2
  unfold adS at h1
  omega
 have HS0 : Hid (HdaL w s m D (.slice none 0 0) (.bool false) (.int .i64 0) w) := ⟨0, [], Nat.zero_le _, rfl, rfl, rfl, ⟨Below.refl _ _, ⟨rfl, .inl ⟨rfl, rfl⟩⟩, fun e he => by cases he⟩⟩
 have HSL : Hid ((s.length <= sc /\ s.length <= 1000) /\ ItRow w SA s) := ⟨⟨hsc, hsl⟩, hs⟩
 clear h hbr hP hs
 have hdz : (D.length : Int) <= 1000000000 := by omega
 have hmz1 : (1 : Int) <= (m : Int) := by omega
 have hmz2 : (m : Int) <= 2 := by omega
 go_enter Try.func23, Try.ntmps23
 go_wp2
 go_loopw [7, 8, 9] (HdaL w s m D) (fun _ _ i _ => D.length - (intOf i).toNat)
 case atStart => exact HS0.out
 case round =>
  obtain ⟨j, O, hj, rfl, rfl, ho, hh⟩ := hrel
  have HA := Lib.hid hh
  have HO := Lib.hid ho
  have hol := HLN.out j O ho
  clear hh ho
  by_cases hlt : j < D.length
  ·have hz : (j : Int) < (D.length : Int) := by omega
   have HLT := Lib.hid hlt
   have hst := ad_step (s := s) (m := m) hlt
   obtain ⟨hc1, hc2⟩ := HH.out.cap _ (hd_mem hlt)
   obtain ⟨hy1, hy2⟩ := HM.out _ (hd_mem hlt)
   have hit := HH.out.its _ (hd_mem hlt)
   obtain ⟨bb, ob, rfl, -, -⟩ := HH.out.row j hlt
   have HBR : Hid (∀ w', Below w.heap.size w w' -> w'.cell? ⟨bb, ob + j * 2, none⟩ = some (.slice (D.getD j hd0).A (D.getD j hd0).s.length (D.getD j hd0).cap) /\ w'.cell? ⟨bb, ob + j * 2 + 1, none⟩ = some (.int .i64 ((D.getD j hd0).many : Int))) := fun w' hb => br_cell (HH.out.row.later hb) j _ (hd_here hlt)
   obtain ⟨d, hd⟩ : ∃ d, D.getD j hd0 = d := ⟨_, rfl⟩
   rw [hd] at hst hc1 hc2 hy1 hy2 hit HBR
   have HCC := Lib.hid (rstcmp_any s d.s SA d.A sc d.cap wr (HSR.out.later HA.out.bel) (hit.later HA.out.bel) (by omega) (by omega))
   have HDI : Hid ((d.s.length <= d.cap /\ d.s.length <= 1000) /\ ItRow w d.A d.s) := ⟨⟨hc1, hc2⟩, hit⟩
   have hdz1 : (1 : Int) <= (d.many : Int) := by omega
   have hdz2 : (d.many : Int) <= 2 := by omega
   have h3 := stC_three s d.s
   obtain ⟨P, hP⟩ : ∃ P, adS s m ((D.take j).map brS) = P := ⟨_, rfl⟩
   rw [hP] at hst HO ⊢
   obtain ⟨P1, dn⟩ := P
   simp only at hst HO
   unfold adR at hst
   simp only [show (brS d).1 = d.s from rfl, show (brS d).2 = d.many from rfl] at hst
   clear hP hd hit hc1 hc2 hlt hj
   obtain ⟨x0, x1⟩ := HBR.out _ HA.out.bel
   go_wp2_with fail
   refine HCC.out.mono ?_; rintro e w2 ⟨rfl, hb⟩
   have HA2 := Lib.hid (HA.out.later hb)
   clear hb HA HCC x0 x1
   have HA := HA2
   clear HA2
   obtain ⟨x0, x1⟩ := HBR.out _ HA.out.bel
   by_cases q0 : stC s d.s = 0
   ·rw [if_pos q0] at hst
    rw [q0]
    have hmin : min 2 (d.many + m) = 2 := by omega
    rw [hmin] at hst
    have HST := Lib.hid hst
    have hmn : ¬ (d.many : Int) + (m : Int) < 2 := by omega
    have hmn2 : (2 : Int) <= (d.many : Int) + (m : Int) := by omega
    have hmn3 : min (2 : Int) ((d.many : Int) + (m : Int)) = 2 := by omega
    clear hst q0 h3 hmin
    go_upto_region 8 with (fail)
    have HX3 := Lib.hid (Blk.new w2 (brC ⟨s, SA, sc, 2⟩) 41)
    have hb3 := (Below.refl w2.heap.size w2).alloc (Nat.le_refl _) (.cells (brC ⟨s, SA, sc, 2⟩) 41)
    have HA3 := Lib.hid (HA.out.later hb3)
    clear hb3 HA
    go_wp2_with (refine wpList_append_br rfl _ _ rfl w.heap.size _ O rfl HA3.out.own _ ⟨s, SA, sc, 2⟩ rfl HX3.out (by omega) HA3.out.bel.size ?_; intro v5 w5 hown5 hg5; have HA := Lib.hid (HA3.out.more HSL.out hown5 hg5); clear hown5 hg5 HX3 HA3; skip)
    go_wp2
    go_roundw
    case rel => exact ⟨j + 1, _, HLT.out, by go_num, by rw [HST.out], by (rw [HST.out, <- HO.out]; simp [brS]), HA.out⟩
    case measure => have := HLT.out; simp [intOf] <;> omega
   ·rw [if_neg q0] at hst
    have hdd : (⟨d.s, d.A, d.cap, d.many⟩ : HdE) = d := rfl
    by_cases q1 : stC s d.s = -1
    ·rw [q1]
     cases dn with
     | false =>
      rw [if_pos ⟨by omega, rfl⟩] at hst
      have HST := Lib.hid hst
      clear hst q0 h3 q1
      go_upto_region 11 with (fail)
      have HX3 := Lib.hid (Blk.new w2 (brC ⟨s, SA, sc, m⟩) 41)
      have HA3 := Lib.hid (HA.out.later ((Below.refl w2.heap.size w2).alloc (Nat.le_refl _) (.cells (brC ⟨s, SA, sc, m⟩) 41)))
      clear HA
      go_wp2_with (at_builtin; first | (refine wpList_append_br rfl _ _ rfl w.heap.size _ O rfl HA3.out.own _ ⟨s, SA, sc, m⟩ rfl HX3.out (by omega) HA3.out.bel.size ?_; intro v5 w5 hown5 hg5; have HA := Lib.hid (HA3.out.more HSL.out hown5 hg5); clear hown5 hg5 HX3 HA3; clear x0 x1; obtain ⟨x0, x1⟩ := HBR.out _ HA.out.bel; have HX6 := Lib.hid (Blk.new w5 (brC d) 41); have HA6 := Lib.hid (HA.out.later ((Below.refl w5.heap.size w5).alloc (Nat.le_refl _) (.cells (brC d) 41)))) | (refine wpList_append_br rfl _ _ rfl w.heap.size v5 (O ++ [(⟨s, SA, sc, m⟩ : HdE)]) rfl HA6.out.own _ d rfl HX6.out (by simp; omega) HA6.out.bel.size ?_; intro v7 w7 hown5 hg5; have HA7 := Lib.hid (HA6.out.more HDI.out hown5 hg5); clear hown5 hg5 HX6 HA6 HA; have HA := HA7; clear HA7))
      go_wp2
      go_roundw
      case rel => exact ⟨j + 1, _, HLT.out, by go_num, by rw [HST.out], by (rw [HST.out, <- HO.out]; simp [brS]), HA.out⟩
      case measure => have := HLT.out; simp [intOf] <;> omega
     | true =>
      rw [if_neg (by simp)] at hst
      have HST := Lib.hid hst
      clear hst q0 h3 q1
      go_upto_region 13 with (fail)
      have HX3 := Lib.hid (Blk.new w2 (brC d) 41)
      have hb3 := (Below.refl w2.heap.size w2).alloc (Nat.le_refl _) (.cells (brC d) 41)
      have HA3 := Lib.hid (HA.out.later hb3)
      clear hb3 HA
      go_wp2_with (refine wpList_append_br rfl _ _ rfl w.heap.size _ O rfl HA3.out.own _ d rfl HX3.out (by omega) HA3.out.bel.size ?_; intro v5 w5 hown5 hg5; have HA := Lib.hid (HA3.out.more HDI.out hown5 hg5); clear hown5 hg5 HX3 HA3; skip)
      go_wp2
      go_roundw
      case rel => exact ⟨j + 1, _, HLT.out, by go_num, by rw [HST.out], by (rw [HST.out, <- HO.out]; simp [brS]), HA.out⟩
      case measure => have := HLT.out; simp [intOf] <;> omega
    ·have q2 : stC s d.s = 1 := by rcases h3 with q | q | q <;> first | exact absurd q q1 | exact absurd q q0 | exact q
     rw [q2]
     rw [if_neg (by omega)] at hst
     have HST := Lib.hid hst
     clear hst q0 h3 q1 q2
     go_upto_region 13 with (fail)
     have HX3 := Lib.hid (Blk.new w2 (brC d) 41)
     have hb3 := (Below.refl w2.heap.size w2).alloc (Nat.le_refl _) (.cells (brC d) 41)
     have HA3 := Lib.hid (HA.out.later hb3)
     clear hb3 HA
     go_wp2_with (refine wpList_append_br rfl _ _ rfl w.heap.size _ O rfl HA3.out.own _ d rfl HX3.out (by omega) HA3.out.bel.size ?_; intro v5 w5 hown5 hg5; have HA := Lib.hid (HA3.out.more HDI.out hown5 hg5); clear hown5 hg5 HX3 HA3; skip)
     go_wp2
     go_roundw
     case rel => exact ⟨j + 1, _, HLT.out, by go_num, by rw [HST.out], by (rw [HST.out, <- HO.out]; simp [brS]), HA.out⟩
     case measure => have := HLT.out; simp [intOf] <;> omega
  ·obtain rfl : j = D.length := by omega
   have hz : ¬ ((D.length : Nat) : Int) < (D.length : Int) := by omega
   have hE := HE.out
   obtain ⟨P, hP⟩ : ∃ P, adS s m ((D.take D.length).map brS) = P := ⟨_, rfl⟩
   rw [hP] at hE HO ⊢
   obtain ⟨P1, dn⟩ := P
   unfold adE at hE
   simp only at hE HO ⊢
   clear hP
   cases dn with
   | true =>
    rw [if_pos rfl] at hE
    have HX : Hid (AddO (addB T s m) w (.returned _) wr) := ⟨_, rfl, ads_end HA.out (by rw [HO.out, hE]), HA.out.bel⟩
    clear hE hz
    go_wp2
    go_ret
    exact HX.out
   | false =>
    rw [if_neg (by simp)] at hE
    have HEE := Lib.hid hE
    clear hE
    go_upto_region 15 with (fail)
    have HX3 := Lib.hid (Blk.new wr (brC ⟨s, SA, sc, m⟩) 41)
    have hb3 := (Below.refl wr.heap.size wr).alloc (Nat.le_refl _) (.cells (brC ⟨s, SA, sc, m⟩) 41)
    have HA3 := Lib.hid (HA.out.later hb3)
    clear hb3 HA
    go_wp2_with (refine wpList_append_br rfl _ _ rfl w.heap.size _ O rfl HA3.out.own _ ⟨s, SA, sc, m⟩ rfl HX3.out (by omega) HA3.out.bel.size ?_; intro v5 w5 hown5 hg5; have HA := Lib.hid (HA3.out.more HSL.out hown5 hg5); clear hown5 hg5 HX3 HA3; skip)
    have HX : Hid (AddO (addB T s m) w (.returned v5) w5) := ⟨_, rfl, ads_end HA.out (by rw [<- HEE.out, List.map_append, HO.out]; rfl), HA.out.bel⟩
    go_wp2
    go_ret
    exact HX.out
theorem u8_back {n : Nat} (h : n < 256) : (UInt8.ofNat n).toNat = n := by
 rw [UInt8.toNat_ofNat']; exact Nat.mod_eq_of_lt h
section
variable {w0 w w' : World} {A B : Option Addr} {l : List Nd} {c : Nat} {s : List Itm} {P Q : World -> Prop}
end
theorem on_len {l : List Nd} {s : List Itm} {c : UInt8} : (brsL (onL l s c)).length <= (hdsL l s).length := by
 rw [<- rd_on]
 have h1 := gt_len (rdB l c (hdsL l s)) []
 have h2 : (rdB l c (hdsL l s)).length <= (hdsL l s).length := List.length_filterMap_le _ _
 simp only [List.length_nil, Nat.add_zero] at h1
 omega
theorem on_few {l : List Nd} (hR : Rgt l) {s : List Itm} (hs : ∀ y ∈ s, HdF l y) (hl : l.length <= 24) (hs8 : s.length <= 200) (c : UInt8) : (brsL (onL l s c)).length <= 5000 := by
 have h1 := on_len (l := l) (s := s) (c := c)
 have h2 := hds_len hR hs
 have h3 : s.length * l.length <= 200 * 24 := Nat.mul_le_mul hs8 hl
 omega
theorem on_call {l : List Nd} {A : Option Addr} {c : Nat} (hR : Rgt l) (hlen : l.length <= 300) (htx : Txt l) (u : UInt8) {s : List Itm} {B : Option Addr} {c2 : Nat} (hs : ∀ y ∈ s, HdF l y) (hsl : s.length <= 200) {w : World} (hrow : NRow w A l) (hss : ItRow w B s) :
 Calls Try.prog 14 #[.agg #[.slice A l.length c], .slice B s.length c2, .int .u8 (u.toNat : Int)] w (fun e w' => ∃ v, e = .returned v /\ BrV (brsL (onL l s u)) v w' /\ Below w.heap.size w w') :=
 (nxOn_any l A c s B c2 u hR hlen htx hs hsl w hrow hss).mono fun e w' h => brs_known (by omega) h
end Go.Proofs.Ytidoofdofdhjpaa
