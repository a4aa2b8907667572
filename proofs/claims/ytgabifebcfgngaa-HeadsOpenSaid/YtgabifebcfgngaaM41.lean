/- The twin's Add: walked. -/
import Derived.Test.YtgabifebcfgngaaM39
import Derived.Test.YtgabifebcfgngaaM40
import Derived.Test.YtgabifebcfgngaaM31
import Derived.Test.YtgabifebcfgngaaM32
namespace Go.Proofs.Ytgabifebcfgngaa
open Go Go.RowKit
set_option linter.unusedVariables false
set_option linter.unusedSimpArgs false
set_option maxRecDepth 1000000
set_option maxHeartbeats 64000000

structure HdaS (w0 : World) (O : List HdE) (v : Value) (w : World) : Prop where
  bel : Below w0.heap.size w0 w
  own : OwnBr w w0.heap.size v O
  its : ∀ e ∈ O, (e.s.length ≤ e.cap ∧ e.s.length ≤ 1000) ∧ ItRow w0 e.A e.s
theorem HdaS.later {w0 w w' : World} {O : List HdE} {v : Value} (h : HdaS w0 O v w) (hb : Below w.heap.size w w') : HdaS w0 O v w' := ⟨h.bel.trans (hb.mono h.bel.size), h.own.later hb, h.its⟩
theorem HdaS.more {w0 w w' : World} {O : List HdE} {v v' : Value} {p : HdE} (h : HdaS w0 O v w) (hp : (p.s.length ≤ p.cap ∧ p.s.length ≤ 1000) ∧ ItRow w0 p.A p.s) (ho : OwnBr w' w0.heap.size v' (O ++ [p])) (hg : w.grownBy w' v.ownBlock) : HdaS w0 (O ++ [p]) v' w' :=
  ⟨h.bel.grown hg h.bel.size (fun k hk => (World.ownsRow.lt h.own k hk).1), ho, fun e he => by
    rcases List.mem_append.1 he with he | he
    · exact h.its e he
    · rw [List.mem_singleton.1 he]; exact hp⟩
def HdaL (w0 : World) (s : List Itm) (m : Nat) (D : List HdE) (v dn i : Value) (w : World) : Prop :=
  ∃ (j : Nat) (O : List HdE), j ≤ D.length ∧ i = .int .i64 (j : Int) ∧ dn = .bool (adS s m ((D.take j).map brS)).2 ∧ O.map brS = (adS s m ((D.take j).map brS)).1 ∧ HdaS w0 O v w
def AddO (T : Brs) (w : World) (e : Ending) (w' : World) : Prop := ∃ v, e = .returned v ∧ BrV T v w' ∧ Below w.heap.size w w'
theorem ads_end {w0 w : World} {T : Brs} {O : List HdE} {v : Value} (h : HdaS w0 O v w) (ho : O.map brS = T) : BrV T v w := by
  obtain ⟨A, cap, rfl, -, hr⟩ := h.own.row
  exact ⟨A, cap, O, rfl, ho, hr, fun d hd => (h.its d hd).1, fun d hd => (h.its d hd).2.later h.bel⟩
theorem radd14_any (T : Brs) (A : Option Addr) (D : List HdE) (c : Nat) (s : List Itm) (SA : Option Addr) (sc m : Nat) (hT : HdSrt T) (hP : PosB T) (hl : D.length ≤ 100000) (hm1 : 1 ≤ m) (hm2 : m ≤ 2) (hsc : s.length ≤ sc) (hsl : s.length ≤ 1000) (w : World) (h : BrA T A D w) (hs : ItRow w SA s) :
    Calls Try.prog 19 #[.slice A D.length c, .slice SA s.length sc, .int .i64 (m : Int)] w (AddO (addB T s m) w) := by
  have hbr := h.brs
  have HE : Hid (adE s m (adS s m ((D.take D.length).map brS)) = addB T s m) := by unfold Hid; rw [List.take_length, hbr, ad_is hT]
  have HM : Hid (∀ d ∈ D, 1 ≤ d.many ∧ d.many ≤ 2) := fun d hd => hP (brS d) (by rw [← hbr]; exact List.mem_map_of_mem hd)
  have HH := Lib.hid h
  have HSR := Lib.hid hs
  have HLN : Hid (∀ (j : Nat) (O : List HdE), O.map brS = (adS s m ((D.take j).map brS)).1 → O.length ≤ 200000) := fun j O ho => by
    have h1 := congrArg List.length ho
    have h2 := ad_len (s := s) (m := m) (L := (D.take j).map brS) (p := ([], false))
    rw [List.length_map] at h1 h2
    rw [List.length_take] at h2
    simp only [List.length_nil] at h2
    unfold adS at h1
    omega
  have HS0 : Hid (HdaL w s m D (.slice none 0 0) (.bool false) (.int .i64 0) w) := ⟨0, [], Nat.zero_le _, rfl, rfl, rfl, ⟨Below.refl _ _, ⟨rfl, .inl ⟨rfl, rfl⟩⟩, fun e he => by cases he⟩⟩
  have HSL : Hid ((s.length ≤ sc ∧ s.length ≤ 1000) ∧ ItRow w SA s) := ⟨⟨hsc, hsl⟩, hs⟩
  clear h hbr hP hs
  have hdz : (D.length : Int) ≤ 100000 := by omega
  have hmz1 : (1 : Int) ≤ (m : Int) := by omega
  have hmz2 : (m : Int) ≤ 2 := by omega
  go_enter Try.func19, Try.ntmps19
  go_wp2
  go_loopw [7, 8, 9] (HdaL w s m D) (fun _ _ i _ => D.length - (intOf i).toNat)
  case atStart => exact HS0.out
  case round =>
    obtain ⟨j, O, hj, rfl, rfl, ho, hh⟩ := hrel
    have HA := Lib.hid hh
    have HO := Lib.hid ho
    have hol := HLN.out j O ho
    clear hh ho
    by_cases hlt : j < D.length
    · have hz : (j : Int) < (D.length : Int) := by omega
      have HLT := Lib.hid hlt
      have hst := ad_step (s := s) (m := m) hlt
      obtain ⟨hc1, hc2⟩ := HH.out.cap _ (hd_mem hlt)
      obtain ⟨hy1, hy2⟩ := HM.out _ (hd_mem hlt)
      have hit := HH.out.its _ (hd_mem hlt)
      obtain ⟨bb, ob, rfl, -, -⟩ := HH.out.row j hlt
      have HBR : Hid (∀ w', Below w.heap.size w w' → w'.cell? ⟨bb, ob + j * 2, none⟩ = some (.slice (D.getD j hd0).A (D.getD j hd0).s.length (D.getD j hd0).cap) ∧ w'.cell? ⟨bb, ob + j * 2 + 1, none⟩ = some (.int .i64 ((D.getD j hd0).many : Int))) := fun w' hb => br_cell (HH.out.row.later hb) j _ (hd_here hlt)
      obtain ⟨d, hd⟩ : ∃ d, D.getD j hd0 = d := ⟨_, rfl⟩
      rw [hd] at hst hc1 hc2 hy1 hy2 hit HBR
      have HCC := Lib.hid (rstcmp_any s d.s SA d.A sc d.cap wr (HSR.out.later HA.out.bel) (hit.later HA.out.bel) (by omega) (by omega))
      have HDI : Hid ((d.s.length ≤ d.cap ∧ d.s.length ≤ 1000) ∧ ItRow w d.A d.s) := ⟨⟨hc1, hc2⟩, hit⟩
      have hdz1 : (1 : Int) ≤ (d.many : Int) := by omega
      have hdz2 : (d.many : Int) ≤ 2 := by omega
      have h3 := stC_three s d.s
      obtain ⟨P, hP⟩ : ∃ P, adS s m ((D.take j).map brS) = P := ⟨_, rfl⟩
      rw [hP] at hst HO ⊢
      obtain ⟨P1, dn⟩ := P
      simp only at hst HO
      unfold adR at hst
      simp only [show (brS d).1 = d.s from rfl, show (brS d).2 = d.many from rfl] at hst
      clear hP hd hit hc1 hc2 hlt hj
      obtain ⟨x0, x1⟩ := HBR.out _ HA.out.bel
      go_wp2_with fail
      refine HCC.out.mono ?_; rintro e w2 ⟨rfl, hb⟩
      have HA2 := Lib.hid (HA.out.later hb)
      clear hb HA HCC x0 x1
      have HA := HA2
      clear HA2
      obtain ⟨x0, x1⟩ := HBR.out _ HA.out.bel
      by_cases q0 : stC s d.s = 0
      · rw [if_pos q0] at hst
        rw [q0]
        have hmin : min 2 (d.many + m) = 2 := by omega
        rw [hmin] at hst
        have HST := Lib.hid hst
        have hmn : ¬ (d.many : Int) + (m : Int) < 2 := by omega
        have hmn2 : (2 : Int) ≤ (d.many : Int) + (m : Int) := by omega
        have hmn3 : min (2 : Int) ((d.many : Int) + (m : Int)) = 2 := by omega
        clear hst q0 h3 hmin
        go_upto_region 8 with (fail)
        have HX3 := Lib.hid (Blk.new w2 (brC ⟨s, SA, sc, 2⟩) 34)
        have hb3 := (Below.refl w2.heap.size w2).alloc (Nat.le_refl _) (.cells (brC ⟨s, SA, sc, 2⟩) 34)
        have HA3 := Lib.hid (HA.out.later hb3)
        clear hb3 HA
        go_wp2_with (refine wpList_append_br rfl _ _ rfl w.heap.size _ O rfl HA3.out.own _ ⟨s, SA, sc, 2⟩ rfl HX3.out (by omega) HA3.out.bel.size ?_; intro v5 w5 hown5 hg5; have HA := Lib.hid (HA3.out.more HSL.out hown5 hg5); clear hown5 hg5 HX3 HA3; skip)
        go_wp2
        go_roundw
        case rel => exact ⟨j + 1, _, HLT.out, by go_num, by rw [HST.out], by (rw [HST.out, ← HO.out]; simp [brS]), HA.out⟩
        case measure => have := HLT.out; simp [intOf] <;> omega
      · rw [if_neg q0] at hst
        have hdd : (⟨d.s, d.A, d.cap, d.many⟩ : HdE) = d := rfl
        by_cases q1 : stC s d.s = -1
        · rw [q1]
          cases dn with
          | false =>
            rw [if_pos ⟨by omega, rfl⟩] at hst
            have HST := Lib.hid hst
            clear hst q0 h3 q1
            go_upto_region 11 with (fail)
            have HX3 := Lib.hid (Blk.new w2 (brC ⟨s, SA, sc, m⟩) 34)
            have HA3 := Lib.hid (HA.out.later ((Below.refl w2.heap.size w2).alloc (Nat.le_refl _) (.cells (brC ⟨s, SA, sc, m⟩) 34)))
            clear HA
            go_wp2_with (at_builtin; first | (refine wpList_append_br rfl _ _ rfl w.heap.size _ O rfl HA3.out.own _ ⟨s, SA, sc, m⟩ rfl HX3.out (by omega) HA3.out.bel.size ?_; intro v5 w5 hown5 hg5; have HA := Lib.hid (HA3.out.more HSL.out hown5 hg5); clear hown5 hg5 HX3 HA3; clear x0 x1; obtain ⟨x0, x1⟩ := HBR.out _ HA.out.bel; have HX6 := Lib.hid (Blk.new w5 (brC d) 34); have HA6 := Lib.hid (HA.out.later ((Below.refl w5.heap.size w5).alloc (Nat.le_refl _) (.cells (brC d) 34)))) | (refine wpList_append_br rfl _ _ rfl w.heap.size v5 (O ++ [(⟨s, SA, sc, m⟩ : HdE)]) rfl HA6.out.own _ d rfl HX6.out (by simp; omega) HA6.out.bel.size ?_; intro v7 w7 hown5 hg5; have HA7 := Lib.hid (HA6.out.more HDI.out hown5 hg5); clear hown5 hg5 HX6 HA6 HA; have HA := HA7; clear HA7))
            go_wp2
            go_roundw
            case rel => exact ⟨j + 1, _, HLT.out, by go_num, by rw [HST.out], by (rw [HST.out, ← HO.out]; simp [brS]), HA.out⟩
            case measure => have := HLT.out; simp [intOf] <;> omega
          | true =>
            rw [if_neg (by simp)] at hst
            have HST := Lib.hid hst
            clear hst q0 h3 q1
            go_upto_region 13 with (fail)
            have HX3 := Lib.hid (Blk.new w2 (brC d) 34)
            have hb3 := (Below.refl w2.heap.size w2).alloc (Nat.le_refl _) (.cells (brC d) 34)
            have HA3 := Lib.hid (HA.out.later hb3)
            clear hb3 HA
            go_wp2_with (refine wpList_append_br rfl _ _ rfl w.heap.size _ O rfl HA3.out.own _ d rfl HX3.out (by omega) HA3.out.bel.size ?_; intro v5 w5 hown5 hg5; have HA := Lib.hid (HA3.out.more HDI.out hown5 hg5); clear hown5 hg5 HX3 HA3; skip)
            go_wp2
            go_roundw
            case rel => exact ⟨j + 1, _, HLT.out, by go_num, by rw [HST.out], by (rw [HST.out, ← HO.out]; simp [brS]), HA.out⟩
            case measure => have := HLT.out; simp [intOf] <;> omega
        · have q2 : stC s d.s = 1 := by rcases h3 with q | q | q <;> first | exact absurd q q1 | exact absurd q q0 | exact q
          rw [q2]
          rw [if_neg (by omega)] at hst
          have HST := Lib.hid hst
          clear hst q0 h3 q1 q2
          go_upto_region 13 with (fail)
          have HX3 := Lib.hid (Blk.new w2 (brC d) 34)
          have hb3 := (Below.refl w2.heap.size w2).alloc (Nat.le_refl _) (.cells (brC d) 34)
          have HA3 := Lib.hid (HA.out.later hb3)
          clear hb3 HA
          go_wp2_with (refine wpList_append_br rfl _ _ rfl w.heap.size _ O rfl HA3.out.own _ d rfl HX3.out (by omega) HA3.out.bel.size ?_; intro v5 w5 hown5 hg5; have HA := Lib.hid (HA3.out.more HDI.out hown5 hg5); clear hown5 hg5 HX3 HA3; skip)
          go_wp2
          go_roundw
          case rel => exact ⟨j + 1, _, HLT.out, by go_num, by rw [HST.out], by (rw [HST.out, ← HO.out]; simp [brS]), HA.out⟩
          case measure => have := HLT.out; simp [intOf] <;> omega
    · obtain rfl : j = D.length := by omega
      have hz : ¬ ((D.length : Nat) : Int) < (D.length : Int) := by omega
      have hE := HE.out
      obtain ⟨P, hP⟩ : ∃ P, adS s m ((D.take D.length).map brS) = P := ⟨_, rfl⟩
      rw [hP] at hE HO ⊢
      obtain ⟨P1, dn⟩ := P
      unfold adE at hE
      simp only at hE HO ⊢
      clear hP
      cases dn with
      | true =>
        rw [if_pos rfl] at hE
        have HX : Hid (AddO (addB T s m) w (.returned _) wr) := ⟨_, rfl, ads_end HA.out (by rw [HO.out, hE]), HA.out.bel⟩
        clear hE hz
        go_wp2
        go_ret
        exact HX.out
      | false =>
        rw [if_neg (by simp)] at hE
        have HEE := Lib.hid hE
        clear hE
        go_upto_region 15 with (fail)
        have HX3 := Lib.hid (Blk.new wr (brC ⟨s, SA, sc, m⟩) 34)
        have hb3 := (Below.refl wr.heap.size wr).alloc (Nat.le_refl _) (.cells (brC ⟨s, SA, sc, m⟩) 34)
        have HA3 := Lib.hid (HA.out.later hb3)
        clear hb3 HA
        go_wp2_with (refine wpList_append_br rfl _ _ rfl w.heap.size _ O rfl HA3.out.own _ ⟨s, SA, sc, m⟩ rfl HX3.out (by omega) HA3.out.bel.size ?_; intro v5 w5 hown5 hg5; have HA := Lib.hid (HA3.out.more HSL.out hown5 hg5); clear hown5 hg5 HX3 HA3; skip)
        have HX : Hid (AddO (addB T s m) w (.returned v5) w5) := ⟨_, rfl, ads_end HA.out (by rw [← HEE.out, List.map_append, HO.out]; rfl), HA.out.bel⟩
        go_wp2
        go_ret
        exact HX.out
end Go.Proofs.Ytgabifebcfgngaa
/- The twin's Same, of the same branches: walked. -/
namespace Go.Proofs.Ytgabifebcfgngaa
open Go Go.RowKit
set_option linter.unusedVariables false
set_option linter.unusedSimpArgs false
set_option maxRecDepth 1000000
set_option maxHeartbeats 64000000

structure HsmS (T : Brs) (A B : Option Addr) (D E : List HdE) (w0 w : World) : Prop where
  bel : Below w0.heap.size w0 w
  a : BrA T A D w
  b : BrA T B E w
theorem HsmS.later {T : Brs} {A B : Option Addr} {D E : List HdE} {w0 w w' : World} (h : HsmS T A B D E w0 w) (hb : Below w.heap.size w w') : HsmS T A B D E w0 w' := ⟨h.bel.trans (hb.mono h.bel.size), h.a.later hb, h.b.later hb⟩
def HsmM (T : Brs) (A B : Option Addr) (D E : List HdE) (w0 : World) (i : Value) (w : World) : Prop := ∃ j : Nat, j ≤ D.length ∧ i = .int .i64 (j : Int) ∧ HsmS T A B D E w0 w
theorem rsame14_any (T : Brs) (A B : Option Addr) (D E : List HdE) (c c2 : Nat) (hl : D.length ≤ 100000) (w : World) (ha : BrA T A D w) (hb : BrA T B E w) :
    Calls Try.prog 20 #[.slice A D.length c, .slice B E.length c2] w (Ans w (.bool true)) := by
  have hde : E.length = D.length := by
    have h1 := congrArg List.length ha.brs
    have h2 := congrArg List.length hb.brs
    rw [List.length_map] at h1 h2
    omega
  have HEQ : Hid (∀ j, j < D.length → (D.getD j hd0).s = (E.getD j hd0).s ∧ (D.getD j hd0).many = (E.getD j hd0).many) := fun j hj => by
    have h1 : (D.map brS)[j]? = (E.map brS)[j]? := by rw [ha.brs, hb.brs]
    rw [List.getElem?_map, List.getElem?_map, hd_here hj, hd_here (by omega : j < E.length)] at h1
    simp only [Option.map_some, Option.some.injEq, brS, Prod.mk.injEq] at h1
    exact h1
  have HS0 : Hid (HsmM T A B D E w (.int .i64 0) w) := ⟨0, Nat.zero_le _, rfl, Below.refl _ _, ha, hb⟩
  have HCA := Lib.hid ha.cap
  have HCB := Lib.hid hb.cap
  have HDE := Lib.hid hde
  clear ha hb
  have hdz : (D.length : Int) ≤ 100000 := by omega
  rw [hde]
  clear hde
  go_enter Try.func20, Try.ntmps20
  go_wp2
  go_loopw [5] (HsmM T A B D E w) (fun i _ => D.length - (intOf i).toNat)
  case atStart => exact HS0.out
  case round =>
    obtain ⟨j, hj, rfl, hh⟩ := hrel
    have HH := Lib.hid hh
    clear hh
    by_cases hlt : j < D.length
    · have hz : (j : Int) < (D.length : Int) := by omega
      have HLT := Lib.hid hlt
      have hlt2 : j < E.length := by have := HDE.out; omega
      obtain ⟨e1, e2⟩ := HEQ.out j hlt
      have HGA := Lib.hid (hd_here hlt)
      have HGB := Lib.hid (hd_here hlt2)
      have HMA := Lib.hid (hd_mem hlt)
      have HMB := Lib.hid (hd_mem hlt2)
      have l1 := (HCA.out _ (hd_mem hlt)).2
      have l2 := (HCB.out _ (hd_mem hlt2)).2
      obtain ⟨ba, oa, rfl, -, -⟩ := HH.out.a.row j hlt
      obtain ⟨bb, ob, rfl, -, -⟩ := HH.out.b.row j hlt2
      have HSM : Hid (∀ w', HsmS T (some ⟨ba, oa, none⟩) (some ⟨bb, ob, none⟩) D E w w' → Calls Try.prog 17 #[.slice (D.getD j hd0).A (D.getD j hd0).s.length (D.getD j hd0).cap, .slice (E.getD j hd0).A (E.getD j hd0).s.length (E.getD j hd0).cap] w' (Ans w' (.bool true))) := fun w' h => by
        have := rstsame_any _ _ _ _ (D.getD j hd0).cap (E.getD j hd0).cap w' (h.a.its _ HMA.out) (h.b.its _ HMB.out) (by omega) (by omega)
        rw [decide_eq_true e1] at this; exact this
      have m1 : (D.getD j hd0).many = (E.getD j hd0).many := e2
      clear l1 l2 e1 e2 hlt hlt2 hj
      go_upto_region 6 with (fail)
      generalize D.getD j hd0 = d at *
      generalize E.getD j hd0 = e at *
      have hmm : ((d.many : Int) != (d.many : Int)) = false := by simp
      refine wp_region_stable (S := (HsmS T (some ⟨ba, oa, none⟩) (some ⟨bb, ob, none⟩) D E w)) (hSt := fun _ _ h hb => h.later hb) (plan := [[(0, none)], [(5, none)], [(17, some 0), (18, some 1)], [(19, some 2)], [(20, some 3)], [(1, none)], [(5, none)], [(22, some 5), (23, some 6)], [(24, some 7)], [(25, some 8)], [(21, some 4), (26, some 9)], [(27, some 10)], [(0, none)], [(5, none)], [(29, some 12), (30, some 13)], [(31, some 14)], [(32, some 15)], [(1, none)], [(5, none)], [(34, some 17), (35, some 18)], [(36, some 19)], [(37, some 20)], [(33, some 16), (38, some 21)], [(39, some 22)], [(28, some 11), (40, some 23)]]) (by kernel_rfl) (by kernel_rfl) (by kernel_rfl) ?hS ?_
      rotate_left
      iterate 25 first
        | (refine chain_skip (by rfl) (by rfl) ?_)
        | (apply chain_want (by rfl)
           · intro act wx hS hr
             simp at hr
             obtain ⟨x0, x1⟩ := br_cell hS.a.row j d HGA.out
             obtain ⟨y0, y1⟩ := br_cell hS.b.row j e HGB.out
             rw [← m1] at y1
             go_simp
             (try go_ints)
             first
               | ((with_reducible refine (HSM.out _ hS).mono ?_); rintro e w' ⟨rfl, hb⟩; exact Done.mk hb)
               | exact Done.same
          )
      show ∀ w', _ → _
      intro wz hz
      simp [Act.put]
      case hS => exact HH.out
      have HZ := Lib.hid hz
      clear hz HH
      go_wp2
      go_roundw
      case rel => exact ⟨j + 1, HLT.out, by go_num, HZ.out⟩
      case measure => have := HLT.out; simp [intOf] <;> omega
    · obtain rfl : j = D.length := by omega
      have hz : ¬ ((D.length : Nat) : Int) < (D.length : Int) := by omega
      clear hlt hj
      go_wp2
      go_ret
      exact ⟨rfl, HH.out.bel⟩
end Go.Proofs.Ytgabifebcfgngaa
/- The statement HeadsOpen: its mathematics. -/
namespace Go.Proofs.Ytgabifebcfgngaa
open Go Go.RowKit
set_option linter.unusedVariables false
set_option linter.unusedSimpArgs false

theorem opn_len {l : List Nd} {x : Itm} {r t : List Itm} (ht : t ∈ opnS l x r) : t.length ≤ r.length + 2 := by
  rw [rwI_opn] at ht
  obtain ⟨q, hq, rfl⟩ := List.mem_map.1 ht
  have := (rw_len l x).2 q hq
  rw [List.length_append]; omega
theorem addB_len {s : List Itm} {m : Nat} : ∀ {L : Brs}, (addB L s m).length ≤ L.length + 1
  | [] => by simp [addB]
  | (t, k) :: L => by
    have := addB_len (s := s) (m := m) (L := L)
    unfold addB
    (repeat' split) <;> simp
    omega
theorem fldB_len : ∀ {G L : Brs}, (fldB L G).length ≤ L.length + G.length
  | [], L => by unfold fldB; simp
  | a :: G, L => by
    have h1 := fldB_len (G := G) (L := addB L a.1 a.2)
    have h2 := addB_len (s := a.1) (m := a.2) (L := L)
    have e : fldB L (a :: G) = fldB (addB L a.1 a.2) G := rfl
    rw [e, List.length_cons]; omega
theorem fldB_snoc (L G : Brs) (a : List Itm × Nat) : fldB L (G ++ [a]) = addB (fldB L G) a.1 a.2 := by unfold fldB; rw [List.foldl_append]; rfl
theorem fldB_step {L : Brs} {D : List HdE} {j : Nat} (hj : j < D.length) : fldB L ((D.take (j + 1)).map brS) = addB (fldB L ((D.take j).map brS)) (D.getD j hd0).s (D.getD j hd0).many := by
  have hg : D.getD j hd0 = D[j] := by rw [List.getD_eq_getElem?_getD, List.getElem?_eq_getElem hj]; rfl
  rw [List.take_succ_eq_append_getElem hj, List.map_append, hg]
  exact fldB_snoc _ _ _
/-- The heads of states, together. -/
def allH (l : List Nd) (S : List (List Itm)) : Brs := S.foldl (fun M t => fldB M (hdsL l t)) []
theorem allH_step {l : List Nd} {D : List HdE} {j : Nat} (hj : j < D.length) : allH l ((D.take (j + 1)).map HdE.s) = fldB (allH l ((D.take j).map HdE.s)) (hdsL l (D.getD j hd0).s) := by
  have hg : D.getD j hd0 = D[j] := by rw [List.getD_eq_getElem?_getD, List.getElem?_eq_getElem hj]; rfl
  rw [List.take_succ_eq_append_getElem hj, List.map_append, hg]
  unfold allH
  rw [List.foldl_append]
  rfl
theorem allF_ok (l : List Nd) : ∀ (S : List (List Itm)) {L : Brs}, HdSrt L → PosB L → HdSrt (S.foldl (fun M t => fldB M (hdsL l t)) L) ∧ PosB (S.foldl (fun M t => fldB M (hdsL l t)) L)
  | [], L, h1, h2 => ⟨h1, h2⟩
  | t :: S, L, h1, h2 => by
    obtain ⟨k1, k2, -⟩ := fldB_all (hds_srt l t) (hds_pos l t) h1 h2
    rw [List.foldl_cons]
    exact allF_ok l S k1 k2
theorem allH_ok (l : List Nd) (S : List (List Itm)) : HdSrt (allH l S) ∧ PosB (allH l S) := allF_ok l S List.Pairwise.nil (fun a h => by cases h)
theorem fldB_ok {L G : Brs} {k : Nat} (g1 : HdSrt G) (g2 : PosB G) (h1 : HdSrt L) (h2 : PosB L) : HdSrt (fldB L (G.take k)) ∧ PosB (fldB L (G.take k)) := by
  have h := fldB_all (G := G.take k) (L := L) (List.Pairwise.sublist (List.take_sublist k G) g1) (fun a ha => g2 a (List.mem_of_mem_take ha)) h1 h2
  exact ⟨h.1, h.2.1⟩
theorem allF_len (l : List Nd) (n : Nat) : ∀ (S : List (List Itm)) {L : Brs}, (∀ t ∈ S, (hdsL l t).length ≤ n) → (S.foldl (fun M t => fldB M (hdsL l t)) L).length ≤ L.length + S.length * n
  | [], L, _ => by simp
  | t :: S, L, h => by
    have h1 := h t (List.mem_cons_self ..)
    have h2 := fldB_len (G := hdsL l t) (L := L)
    have h3 := allF_len l n S (L := fldB L (hdsL l t)) fun u hu => h u (List.mem_cons_of_mem _ hu)
    rw [List.foldl_cons, List.length_cons, Nat.add_mul, Nat.one_mul]
    omega
theorem opn_two {l : List Nd} {x : Itm} {r : List Itm} : (opnS l x r).length ≤ 2 := by
  rw [rwI_opn, List.length_map]; exact (rw_len l x).1
end Go.Proofs.Ytgabifebcfgngaa
/- The statement HeadsOpen of layer 14, walked. -/
namespace Go.Proofs.Ytgabifebcfgngaa
open Go Go.RowKit
set_option linter.unusedVariables false
set_option linter.unusedSimpArgs false
set_option maxRecDepth 1000000
set_option maxHeartbeats 64000000

structure HovS (w0 : World) (A : Option Addr) (l : List Nd) (c : Nat) (B : Option Addr) (s : List Itm) (P : World → Prop) (w : World) : Prop where
  h : HtwS w0 A l c B s w
  p : P w
  pl : ∀ w w', P w → Below w.heap.size w w' → P w'
section
variable {w0 w w' : World} {A B : Option Addr} {l : List Nd} {c : Nat} {s : List Itm} {P Q : World → Prop}
theorem HovS.later (h : HovS w0 A l c B s P w) (hb : Below w.heap.size w w') : HovS w0 A l c B s P w' := ⟨h.h.later hb, h.pl _ _ h.p hb, h.pl⟩
theorem HovS.add (h : HovS w0 A l c B s P w) (hq : Q w) (hl : ∀ w w', Q w → Below w.heap.size w w' → Q w') : HovS w0 A l c B s (fun w => P w ∧ Q w) w :=
  ⟨h.h, ⟨h.p, hq⟩, fun w w' k hb => ⟨h.pl w w' k.1 hb, hl w w' k.2 hb⟩⟩
theorem HovS.sub (h : HovS w0 A l c B s (fun w => P w ∧ Q w) w) (hl : ∀ w w', P w → Below w.heap.size w w' → P w') : HovS w0 A l c B s P w := ⟨h.h, h.p.1, hl⟩
end
def HovL (w0 : World) (A : Option Addr) (l : List Nd) (c : Nat) (B : Option Addr) (s : List Itm) (P : World → Prop) (D : List HdE) (v i : Value) (w : World) : Prop :=
  ∃ j : Nat, j ≤ D.length ∧ i = .int .i64 (j : Int) ∧ BrV (allH l ((D.take j).map HdE.s)) v w ∧ HovS w0 A l c B s P w
def HovM (w0 : World) (A : Option Addr) (l : List Nd) (c : Nat) (B : Option Addr) (s : List Itm) (P : World → Prop) (F : Brs) (G : List HdE) (v i : Value) (w : World) : Prop :=
  ∃ k : Nat, k ≤ G.length ∧ i = .int .i64 (k : Int) ∧ BrV (fldB F ((G.take k).map brS)) v w ∧ HovS w0 A l c B s P w
theorem headsopen_walk (l : List Nd) (A : Option Addr) (c : Nat) (s : List Itm) (B : Option Addr) (c2 : Nat) (hc1 : l.length ≤ c) (hl : l.length ≤ 9223372036854775807) (htx : Txt l) (h1 : s.length ≤ 9223372036854775807) (hc2 : s.length ≤ c2) (w : World) (hrow : NRow w A l) (hs : ItRow w B s) :
    Calls Try.prog 4 #[.agg #[.slice A l.length c], .slice B s.length c2] w (Ans w (.bool true)) := by
  have HS : Hid (HtwS w A l c B s (w.alloc (.cells #[.slice A l.length c] 24))) := HtwS.new c hrow hs
  have HAW := Lib.hid (fun w => awake14_any w)
  have HTX := Lib.hid htx
  have HL9 := Lib.hid h1
  have HC2 := Lib.hid hc2
  clear hrow hs htx h1 hc2
  go_enter Try.func4, Try.ntmps4
  go_upto_region 1 with (fail)
  generalize w.alloc (.cells #[.slice A l.length c] 24) = w1 at HS ⊢
  have e0 := HS.out.f.box.cell 0
  simp at e0
  go_wp2_with fail
  refine ((HAW.out _)).mono ?_; rintro e w2 ⟨rfl, hb⟩
  have HS2 := Lib.hid (HS.out.later hb)
  clear hb e0 HS
  have HS := HS2
  clear HS2
  have e0 := HS.out.f.box.cell 0
  simp at e0
  have HF := Lib.hid (few_any l A c hl HTX.out _ HS.out.f.row)
  cases hf : fewB l with
  | false =>
    rw [hf] at HF
    clear hf
    go_wp2_with fail
    refine ((HF.out)).mono ?_; rintro e w2 ⟨rfl, hb⟩
    have HS2 := Lib.hid (HS.out.later hb)
    clear hb e0 HS
    have HS := HS2
    clear HS2
    have e0 := HS.out.f.box.cell 0
    simp at e0
    go_wp2_with fail
    refine ((HAW.out _)).mono ?_; rintro e w2 ⟨rfl, hb⟩
    have HS2 := Lib.hid (HS.out.later hb)
    clear hb e0 HS
    have HS := HS2
    clear HS2
    have e0 := HS.out.f.box.cell 0
    simp at e0
    go_wp2
    go_ret
    exact ⟨rfl, HS.out.f.bel⟩
  | true =>
    rw [hf] at HF
    have L1 := Lib.hid (few_txt hf).1
    clear hf
    go_wp2_with fail
    refine ((HF.out)).mono ?_; rintro e w2 ⟨rfl, hb⟩
    have HS2 := Lib.hid (HS.out.later hb)
    clear hb e0 HS
    have HS := HS2
    clear HS2
    have e0 := HS.out.f.box.cell 0
    simp at e0
    clear HF
    have HF := Lib.hid (rright_any l A c hc1 (by have := L1.out; omega) HTX.out _ HS.out.f.row)
    cases hf : rgB l with
    | false =>
      rw [hf] at HF
      clear hf
      go_wp2_with fail
      refine ((HF.out)).mono ?_; rintro e w2 ⟨rfl, hb⟩
      have HS2 := Lib.hid (HS.out.later hb)
      clear hb e0 HS
      have HS := HS2
      clear HS2
      have e0 := HS.out.f.box.cell 0
      simp at e0
      go_wp2_with fail
      refine ((HAW.out _)).mono ?_; rintro e w2 ⟨rfl, hb⟩
      have HS2 := Lib.hid (HS.out.later hb)
      clear hb e0 HS
      have HS := HS2
      clear HS2
      have e0 := HS.out.f.box.cell 0
      simp at e0
      go_wp2
      go_ret
      exact ⟨rfl, HS.out.f.bel⟩
    | true =>
      rw [hf] at HF
      have HR := Lib.hid ((rgB_iff l).1 hf)
      clear hf
      go_wp2_with fail
      refine ((HF.out)).mono ?_; rintro e w2 ⟨rfl, hb⟩
      have HS2 := Lib.hid (HS.out.later hb)
      clear hb e0 HS
      have HS := HS2
      clear HS2
      have e0 := HS.out.f.box.cell 0
      simp at e0
      clear HF
      have HF := Lib.hid (rfits14_any l A c s B c2 (by have := L1.out; omega) HL9.out HTX.out _ HS.out.f.row HS.out.rs)
      cases hf : fitB l s with
      | false =>
        rw [hf] at HF
        clear hf
        go_wp2_with fail
        refine ((HF.out)).mono ?_; rintro e w2 ⟨rfl, hb⟩
        have HS2 := Lib.hid (HS.out.later hb)
        clear hb e0 HS
        have HS := HS2
        clear HS2
        have e0 := HS.out.f.box.cell 0
        simp at e0
        go_wp2_with fail
        refine ((HAW.out _)).mono ?_; rintro e w2 ⟨rfl, hb⟩
        have HS2 := Lib.hid (HS.out.later hb)
        clear hb e0 HS
        have HS := HS2
        clear HS2
        have e0 := HS.out.f.box.cell 0
        simp at e0
        go_wp2
        go_ret
        exact ⟨rfl, HS.out.f.bel⟩
      | true =>
        rw [hf] at HF
        obtain ⟨⟨hl24, hs8⟩, hst⟩ := fit_iff.1 hf
        have HFO := Lib.hid (stF_form hst)
        have HPOS : Hid (0 < l.length) := HR.out.1.1
        have HLN := Lib.hid hl24
        have HSL := Lib.hid hs8
        clear hf hst
        go_wp2_with fail
        refine ((HF.out)).mono ?_; rintro e w2 ⟨rfl, hb⟩
        have HS2 := Lib.hid (HS.out.later hb)
        clear hb e0 HS
        have HS := HS2
        clear HS2
        have e0 := HS.out.f.box.cell 0
        simp at e0
        clear HF
        have HHD := Lib.hid (hdHeads_any l A c s B c2 HR.out (by omega) HTX.out HFO.out (by omega) _ HS.out.f.row HS.out.rs)
        have HHG : Hid (∀ t k w' B0, (∀ y ∈ t, HdF l y) → t.length ≤ 200 → NRow w' A l → ItRow w' B0 t → Calls Try.prog 10 #[.agg #[.slice A l.length c], .slice B0 t.length k] w' (fun e w'' => ∃ v, e = .returned v ∧ BrV (hdsL l t) v w'' ∧ Below w'.heap.size w' w'')) := fun t k w' B0 h1 h2 h3 h4 => (hdHeads_any l A c t B0 k HR.out (by have := HLN.out; omega) HTX.out h1 h2 w' h3 h4).mono fun e w'' h => hds_known h
        have HMB : Hid ((hdsL l s).length ≤ 1000) := by
          have h1 := hds_len HR.out HFO.out
          have h2 : s.length * l.length ≤ 8 * 24 := Nat.mul_le_mul hs8 hl24
          unfold Hid; omega
        go_wp2_with fail
        refine HHD.out.mono ?_; rintro e w3 hp
        obtain ⟨v, rfl, ⟨AH, kh, DH, rfl, hDH⟩, hb⟩ := hds_known hp
        have HS2 : Hid (HovS w A l c B s (fun w => True ∧ BrA (hdsL l s) AH DH w) w3) := ⟨HS.out.later hb, ⟨trivial, hDH⟩, fun _ _ h hb => ⟨trivial, h.2.later hb⟩⟩
        have HDH : Hid (DH.length ≤ 1000) := by
          have h1 := congrArg List.length hDH.brs
          rw [List.length_map] at h1
          have := HMB.out; unfold Hid; omega
        clear hb hp hDH HS HHD e0
        have HS := HS2
        clear HS2
        have e0 := HS.out.h.f.box.cell 0
        simp at e0
        have HRD := Lib.hid (hdReadyS_any l A c s B c2 HPOS.out HFO.out (by omega) (by omega) _ HS.out.h.f.row HS.out.h.rs)
        cases hrd : rdyS l s with
        | true =>
          rw [hrd] at HRD
          have hT := hds_ready hrd
          rw [hT] at HS
          obtain ⟨A1, c1, rfl⟩ := one_br HS.out.p.2.brs
          obtain ⟨bh, oh, rfl, -, -⟩ := HS.out.p.2.row 0 (Nat.zero_lt_succ _)
          clear hrd hT HDH HMB
          go_wp2_with fail
          refine HRD.out.mono ?_; rintro e w4 ⟨rfl, hb⟩
          have HS2 := Lib.hid (HS.out.later hb)
          clear hb HS HRD e0
          have HS := HS2
          clear HS2
          obtain ⟨x0, x1⟩ := br_cell HS.out.p.2.row 0 _ rfl
          simp at x0 x1
          have HSM : Hid (Calls Try.prog 17 #[.slice A1 s.length c1, .slice B s.length c2] w4 (Ans w4 (.bool true))) := by
            have := rstsame_any s s A1 B c1 c2 w4 (HS.out.p.2.its ⟨s, A1, c1, 1⟩ (by simp)) HS.out.h.rs (by omega) (by omega)
            rw [decide_eq_true rfl] at this; exact this
          go_wp2_with fail
          refine HSM.out.mono ?_; rintro e w5 ⟨rfl, hb⟩
          have HB := Lib.hid (HS.out.h.f.bel.trans (hb.mono HS.out.h.f.bel.size))
          clear hb
          go_wp2
          go_ret
          exact ⟨rfl, HB.out⟩
        | false =>
          rw [hrd] at HRD
          go_wp2_with fail
          refine HRD.out.mono ?_; rintro e w4 ⟨rfl, hb⟩
          have HS2 := Lib.hid (HS.out.later hb)
          clear hb HS HRD e0
          have HS := HS2
          clear HS2
          have e0 := HS.out.h.f.box.cell 0
          simp at e0
          obtain ⟨x, r, hxr⟩ : ∃ x r, s = x :: r := by
            cases s with
            | nil => unfold rdyS at hrd; cases hrd
            | cons x r => exact ⟨x, r, rfl⟩
          have HRL : Hid (r.length ≤ 7) := by have := HSL.out; rw [hxr] at this; simp at this; unfold Hid; omega
          have HOF : Hid (∀ t ∈ opnS l x r, (∀ y ∈ t, HdF l y) ∧ t.length ≤ 9 ∧ (hdsL l t).length ≤ 300) := fun t ht => by
            have h0 := HFO.out
            rw [hxr] at h0
            have h1 := opn_form HR.out.1 (h0 x (List.mem_cons_self ..)) (fun y hy => h0 y (List.mem_cons_of_mem _ hy)) ht
            have h2 := opn_len ht
            have h3 := hds_len HR.out h1
            have h4 : t.length * l.length ≤ 9 * 24 := Nat.mul_le_mul (by have := HRL.out; omega) hl24
            exact ⟨h1, by have := HRL.out; omega, by omega⟩
          have HAL : Hid (allH l (opnS l x r) = hdsL l s) := by
            have h0 := HFO.out
            rw [hxr] at h0
            have := hds_open HR.out h0 (by rw [← hxr]; exact hrd)
            rw [hxr]; exact this
          have HOP : Hid (Calls Try.prog 18 #[.agg #[.slice A l.length c], .slice B s.length c2] w4 (fun e w' => ∃ v, e = .returned v ∧ StsV (opnS l x r) v w' ∧ Below w4.heap.size w4 w')) := by
            have h0 := HFO.out
            have hcc := HC2.out
            have hrs := HS.out.h.rs
            have h9 := hrd
            rw [hxr] at h0 hcc h9 hrs
            have := (hdOpen_any l A c x r B c2 hcc HR.out (by omega) h0 h9 (by have := HRL.out; omega) w4 HS.out.h.f.row hrs).mono fun e w' h => ho_known h
            rw [← hxr] at this
            exact this
          have HTW : Hid ((opnS l x r).length ≤ 2) := opn_two
          clear hxr hrd HRL
          generalize opnS l x r = TO at *
          generalize hTT : hdsL l s = TH at *
          clear hTT
          go_wp2_with fail
          refine HOP.out.mono ?_; rintro e w5 ⟨v, rfl, ⟨AO, ko, DO, rfl, hDO⟩, hb⟩
          have HS2 := Lib.hid ((HS.out.later hb).add (Q := fun w => StA TO AO DO w) hDO (fun _ _ h hb => h.later hb))
          have HDO : Hid (DO.map HdE.s = TO) := hDO.sts
          have HDL : Hid (DO.length ≤ 2) := by
            have h1 := congrArg List.length hDO.sts
            rw [List.length_map] at h1
            have := HTW.out; unfold Hid; omega
          clear hb hDO HS HOP e0 HTW
          have HS := HS2
          clear HS2
          have hdoz : (DO.length : Int) ≤ 2 := by have := HDL.out; omega
          have HS0 : Hid (HovL w A l c B s (fun w => (True ∧ BrA TH AH DH w) ∧ StA TO AO DO w) DO (.slice none 0 0) (.int .i64 0) w5) := ⟨0, Nat.zero_le _, rfl, ⟨none, 0, [], rfl, rfl, fun i hi => by simp at hi, fun d hd => (by cases hd), fun d hd => (by cases hd)⟩, HS.out⟩
          clear HS
          go_wp2
          go_loopw [7, 8] (HovL w A l c B s (fun w => (True ∧ BrA TH AH DH w) ∧ StA TO AO DO w) DO) (fun _ i _ => DO.length - (intOf i).toNat)
          case atStart => exact HS0.out
          case round =>
            obtain ⟨j, hj, rfl, hv, hh⟩ := hrel
            obtain ⟨AV, kv, DV, rfl, hDV⟩ := hv
            have HS := Lib.hid hh
            have HV := Lib.hid hDV
            clear hh hDV HS0
            by_cases hlt : j < DO.length
            · have hz : (j : Int) < (DO.length : Int) := by omega
              have HLT := Lib.hid hlt
              have HST := Lib.hid (allH_step (l := l) hlt)
              have HDG := Lib.hid (hd_here hlt)
              have HDM := Lib.hid (hd_mem hlt)
              have hmo : (DO.getD j hd0).s ∈ TO := by rw [← HDO.out]; exact List.mem_map_of_mem (hd_mem hlt)
              obtain ⟨hf1, hf2, hf3⟩ := HOF.out _ hmo
              have HOKF := Lib.hid (allH_ok l ((DO.take j).map HdE.s))
              have HLF : Hid ((allH l ((DO.take j).map HdE.s)).length ≤ 1000) := by
                have h1 := allF_len l 300 ((DO.take j).map HdE.s) (L := []) (fun t ht => by
                  obtain ⟨d, hd, rfl⟩ := List.mem_map.1 ht
                  exact (HOF.out _ (by rw [← HDO.out]; exact List.mem_map_of_mem (List.mem_of_mem_take hd))).2.2)
                have h2 : ((DO.take j).map HdE.s).length ≤ 2 := by rw [List.length_map, List.length_take]; have := HDL.out; omega
                have h3 : ((DO.take j).map HdE.s).length * 300 ≤ 2 * 300 := Nat.mul_le_mul_right _ h2
                unfold Hid allH
                simp only [List.length_nil] at h1
                omega
              obtain ⟨bo, oo, rfl, -, -⟩ := HS.out.p.2.row j hlt
              clear hmo hlt hj
              go_upto_region 11 with (fail)
              generalize DO.getD j hd0 = d at *
              have HHX : Hid (∀ w', NRow w' A l → ItRow w' d.A d.s → Calls Try.prog 10 #[.agg #[.slice A l.length c], .slice d.A d.s.length d.cap] w' (fun e w'' => ∃ v, e = .returned v ∧ BrV (hdsL l d.s) v w'' ∧ Below w'.heap.size w' w'')) := fun w' h1 h2 => HHG.out d.s d.cap w' d.A hf1 (by omega) h1 h2
              have HSV := Lib.hid (HS.out.add (Q := fun w => BrA (allH l ((DO.take j).map HdE.s)) AV DV w) HV.out (fun _ _ h hb => h.later hb))
              clear HS HV
              refine wp_region_stable (S := (HovS w A l c B s (fun w => ((True ∧ BrA TH AH DH w) ∧ StA TO (some ⟨bo, oo, none⟩) DO w) ∧ BrA (allH l ((DO.take j).map HdE.s)) AV DV w))) (hSt := fun _ _ h hb => h.later hb) (plan := [[(2, none)], [(6, none)], [(8, none)], [(64, some 1), (65, some 2)], [(66, some 3)], [(63, some 0), (67, some 4)], [(68, some 5)]]) (by kernel_rfl) (by kernel_rfl) (by kernel_rfl) ?hS ?_
              rotate_left
              iterate 5 first
                | (refine chain_skip (by rfl) (by rfl) ?_)
                | (apply chain_want (by rfl)
                   · intro act wx hS hr
                     simp at hr
                     have e0 := hS.h.f.box.cell 0
                     simp at e0
                     have x0 := st_cell hS.p.1.2 j d HDG.out
                     go_simp
                     (try go_ints)
                     first
                       | exact Done.same
                  )
              (refine chain_rel (BrV (hdsL l d.s)) (BrV.later (hdsL l d.s)) (by rfl) ?_ ?_
               · intro act wx hS hr
                 simp at hr
                 have e0 := hS.h.f.box.cell 0
                 simp at e0
                 have x0 := st_cell hS.p.1.2 j d HDG.out
                 all_goals go_simp
                 with_reducible refine Calls.mono (HHX.out _ hS.h.f.row (hS.p.1.2.its _ HDM.out)) ?_
                 rintro e w' ⟨v, rfl, hv, hb⟩
                 exact Done.rel hb hv
              )
              (refine chain_rel (BrV (hdsL l d.s)) (BrV.later (hdsL l d.s)) (by rfl) ?_ ?_
               · intro act wx hS hr
                 simp at hr
                 have e0 := hS.h.f.box.cell 0
                 simp at e0
                 have x0 := st_cell hS.p.1.2 j d HDG.out
                 obtain ⟨u3, hr3, hv3⟩ := hr
                 all_goals go_simp
                 exact Done.rel (Below.refl _ _) hv3
              )
              show ∀ w', _ → _
              intro wz hz
              simp [Act.put]
              case hS => exact HSV.out
              intro _ _ v6 hv6
              obtain ⟨AG, kg, DG, rfl, hDG⟩ := hv6
              have HV := Lib.hid hz.p.2
              have HS := Lib.hid ((hz.sub (fun _ _ h hb => ⟨⟨trivial, h.1.2.later hb⟩, h.2.later hb⟩)).add (Q := fun w => BrA (hdsL l d.s) AG DG w) hDG (fun _ _ h hb => h.later hb))
              have HGB : Hid (DG.map brS = hdsL l d.s) := hDG.brs
              have HGL : Hid (DG.length ≤ 300) := by
                have h1 := congrArg List.length hDG.brs
                rw [List.length_map] at h1
                unfold Hid; omega
              have HGC := Lib.hid hDG.cap
              have HGS := Lib.hid (hds_srt l d.s)
              have HGP := Lib.hid (hds_pos l d.s)
              clear hz hDG HSV HHX hf1 hf2 hf3
              generalize hTG : hdsL l d.s = TG at *
              generalize hF : allH l ((DO.take j).map HdE.s) = F at *
              clear hTG hF
              have hdgz : (DG.length : Int) ≤ 300 := by have := HGL.out; omega
              have HM0 : Hid (HovM w A l c B s (fun w => ((True ∧ BrA TH AH DH w) ∧ StA TO (some ⟨bo, oo, none⟩) DO w) ∧ BrA TG AG DG w) F DG (.slice AV DV.length kv) (.int .i64 0) wz) := ⟨0, Nat.zero_le _, rfl, ⟨AV, kv, DV, rfl, HV.out⟩, HS.out⟩
              clear HV HS
              go_wp2
              go_loopw [7, 10] (HovM w A l c B s (fun w => ((True ∧ BrA TH AH DH w) ∧ StA TO (some ⟨bo, oo, none⟩) DO w) ∧ BrA TG AG DG w) F DG) (fun _ i _ => DG.length - (intOf i).toNat)
              case atStart => exact HM0.out
              case round =>
                obtain ⟨k, hk, rfl, hv, hh⟩ := hrel
                have HS := Lib.hid hh
                clear hh HM0
                obtain ⟨AC, kc, DC, rfl, hDC⟩ := hv
                by_cases hlk : k < DG.length
                · have hkz : (k : Int) < (DG.length : Int) := by omega
                  have HLK := Lib.hid hlk
                  have HSK := Lib.hid (fldB_step (L := F) hlk)
                  have HGH := Lib.hid (hd_here hlk)
                  have HGM := Lib.hid (hd_mem hlk)
                  obtain ⟨hg1, hg2⟩ := HGC.out _ (hd_mem hlk)
                  obtain ⟨hg3, hg4⟩ := HGP.out (brS (DG.getD k hd0)) (by rw [← HGB.out]; exact List.mem_map_of_mem (hd_mem hlk))
                  have hok := fldB_ok (k := k) HGS.out HGP.out HOKF.out.1 HOKF.out.2
                  rw [← HGB.out, ← List.map_take] at hok
                  have HCL : Hid (DC.length ≤ 2000) := by
                    have h1 := congrArg List.length hDC.brs
                    have h2 := fldB_len (G := (DG.take k).map brS) (L := F)
                    have h3 : ((DG.take k).map brS).length ≤ 300 := by rw [List.length_map, List.length_take]; have := HGL.out; omega
                    have h4 := HLF.out
                    rw [List.length_map] at h1
                    unfold Hid; omega
                  obtain ⟨bg, og, rfl, -, -⟩ := HS.out.p.2.row k hlk
                  have HSC := Lib.hid (HS.out.add (Q := fun w => BrA (fldB F ((DG.take k).map brS)) AC DC w) hDC (fun _ _ h hb => h.later hb))
                  have HOK := Lib.hid hok
                  clear hok hDC HS hlk hk
                  go_upto_region 15 with (fail)
                  generalize DG.getD k hd0 = g at *
                  generalize fldB F ((DG.take k).map brS) = TC at *
                  simp only [brS] at hg3 hg4
                  have HAD : Hid (∀ w', BrA TC AC DC w' → ItRow w' g.A g.s → Calls Try.prog 19 #[.slice AC DC.length kc, .slice g.A g.s.length g.cap, .int .i64 (g.many : Int)] w' (AddO (addB TC g.s g.many) w')) := fun w' h1 h2 => radd14_any TC AC DC kc g.s g.A g.cap g.many HOK.out.1 HOK.out.2 (by have := HCL.out; omega) hg3 hg4 hg1 hg2 w' h1 h2
                  clear hg1 hg2 hg3 hg4
                  refine wp_region_stable (S := (HovS w A l c B s (fun w => (((True ∧ BrA TH AH DH w) ∧ StA TO (some ⟨bo, oo, none⟩) DO w) ∧ BrA TG (some ⟨bg, og, none⟩) DG w) ∧ BrA TC AC DC w))) (hSt := fun _ _ h hb => h.later hb) (plan := [[(7, none)], [(9, none)], [(10, none)], [(76, some 1), (77, some 2)], [(78, some 3)], [(79, some 4)], [(9, none)], [(10, none)], [(81, some 6), (82, some 7)], [(83, some 8)], [(84, some 9)], [(75, some 0), (80, some 5), (85, some 10)], [(86, some 11)]]) (by kernel_rfl) (by kernel_rfl) (by kernel_rfl) ?hS ?_
                  rotate_left
                  iterate 11 first
                    | (refine chain_skip (by rfl) (by rfl) ?_)
                    | (apply chain_want (by rfl)
                       · intro act wx hS hr
                         simp at hr
                         obtain ⟨x0, x1⟩ := br_cell hS.p.1.2.row k g HGH.out
                         go_simp
                         (try go_ints)
                         first
                           | exact Done.same
                      )
                  (refine chain_rel (BrV (addB TC g.s g.many)) (BrV.later (addB TC g.s g.many)) (by rfl) ?_ ?_
                   · intro act wx hS hr
                     simp at hr
                     obtain ⟨x0, x1⟩ := br_cell hS.p.1.2.row k g HGH.out
                     all_goals go_simp
                     with_reducible refine Calls.mono (HAD.out _ hS.p.2 (hS.p.1.2.its _ HGM.out)) ?_
                     rintro e w' ⟨v, rfl, hv, hb⟩
                     exact Done.rel hb hv
                  )
                  (refine chain_rel (BrV (addB TC g.s g.many)) (BrV.later (addB TC g.s g.many)) (by rfl) ?_ ?_
                   · intro act wx hS hr
                     simp at hr
                     obtain ⟨x0, x1⟩ := br_cell hS.p.1.2.row k g HGH.out
                     obtain ⟨u3, hr3, hv3⟩ := hr
                     all_goals go_simp
                     exact Done.rel (Below.refl _ _) hv3
                  )
                  show ∀ w', _ → _
                  intro wz hz
                  simp [Act.put]
                  case hS => exact HSC.out
                  intro _ _ v12 hv12
                  have HSN := Lib.hid (hz.sub (fun _ _ h hb => ⟨⟨⟨trivial, h.1.1.2.later hb⟩, h.1.2.later hb⟩, h.2.later hb⟩))
                  have HVN : Hid (BrV (fldB F ((DG.take (k + 1)).map brS)) v12 wz) := by rw [HSK.out]; exact hv12
                  clear hz hv12 HSC HAD
                  go_wp2
                  go_roundw
                  case rel => exact ⟨k + 1, HLK.out, by go_num, HVN.out, HSN.out⟩
                  case measure => have := HLK.out; simp [intOf] <;> omega
                · obtain rfl : k = DG.length := by omega
                  have hkz : ¬ ((DG.length : Nat) : Int) < (DG.length : Int) := by omega
                  have HVN : Hid (BrV (allH l ((DO.take (j + 1)).map HdE.s)) (.slice AC DC.length kc) wr) := by
                    have h1 := hDC
                    rw [List.take_length, HGB.out, ← HST.out] at h1
                    exact ⟨AC, kc, DC, rfl, h1⟩
                  have HSN := Lib.hid (HS.out.sub (fun _ _ h hb => ⟨⟨trivial, h.1.2.later hb⟩, h.2.later hb⟩))
                  clear hDC HS hlk hk
                  go_wp2
                  go_roundw
                  case rel => exact ⟨j + 1, HLT.out, by go_num, HVN.out, HSN.out⟩
                  case measure => have := HLT.out; simp [intOf] <;> omega
            · obtain rfl : j = DO.length := by omega
              have hz : ¬ ((DO.length : Nat) : Int) < (DO.length : Int) := by omega
              have hDC := HV.out
              rw [List.take_length, HDO.out, HAL.out] at hDC
              have hlc : DV.length ≤ 1000 := by
                have h1 := congrArg List.length hDC.brs
                rw [List.length_map] at h1
                have := HMB.out; omega
              have HSM := Lib.hid (rsame14_any TH AV AH DV DH kv kh (by omega) _ hDC HS.out.p.1.2)
              clear hDC HV hlt hj
              go_wp2_with fail
              refine HSM.out.mono ?_; rintro e w8 ⟨rfl, hb⟩
              have HB := Lib.hid (HS.out.h.f.bel.trans (hb.mono HS.out.h.f.bel.size))
              clear hb
              go_wp2
              go_ret
              exact ⟨rfl, HB.out⟩
end Go.Proofs.Ytgabifebcfgngaa
