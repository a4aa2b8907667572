/- What the statements of heads share: states, branches known; a start. -/
import Derived.Test.YtidoofdofdhjpaaM47
import Derived.Test.YtidoofdofdhjpaaM21
import Derived.Test.YtidoofdofdhjpaaM34
import Derived.Test.YtidoofdofdhjpaaM36
import Derived.Test.YtidoofdofdhjpaaM42
import Derived.Test.YtidoofdofdhjpaaM44
namespace Go.Proofs.Ytidoofdofdhjpaa
open Go Go.RowKit
set_option linter.unusedVariables false
set_option linter.unusedSimpArgs false
set_option maxRecDepth 100000
set_option maxHeartbeats 16000000

/-- A state that is known. -/
def StV (s : List Itm) (v : Value) (w : World) : Prop := ∃ A cap, v = .slice A s.length cap ∧ s.length ≤ cap ∧ ItRow w A s
theorem StV.later (s : List Itm) (v : Value) (w w' : World) (h : StV s v w) (hb : Below w.heap.size w w') : StV s v w' := by
  obtain ⟨A, cap, h1, h2, h3⟩ := h
  exact ⟨A, cap, h1, h2, h3.later hb⟩
/-- Branches in memory, each with its state. -/
structure BrA (T : Brs) (A : Option Addr) (D : List HdE) (w : World) : Prop where
  brs : D.map brS = T
  row : BrRow w A D
  cap : ∀ d ∈ D, d.s.length ≤ d.cap ∧ d.s.length ≤ 1000
  its : ∀ d ∈ D, ItRow w d.A d.s
theorem BrA.later {T : Brs} {A : Option Addr} {D : List HdE} {w w' : World} (h : BrA T A D w) (hb : Below w.heap.size w w') : BrA T A D w' := ⟨h.brs, h.row.later hb, h.cap, fun d hd => (h.its d hd).later hb⟩
def BrV (T : Brs) (v : Value) (w : World) : Prop := ∃ A cap D, v = .slice A D.length cap ∧ BrA T A D w
theorem BrV.later (T : Brs) (v : Value) (w w' : World) (h : BrV T v w) (hb : Below w.heap.size w w') : BrV T v w' := by
  obtain ⟨A, cap, D, h1, h2⟩ := h
  exact ⟨A, cap, D, h1, h2.later hb⟩
theorem own_it {w : World} {B : Nat} {d : HdE} (h : OwnIt w B d.v d.s) : d.s.length ≤ d.cap ∧ ItRow w d.A d.s := by
  obtain ⟨a, cap, hv, hc, hr⟩ := OwnIt.row h
  unfold HdE.v at hv
  cases hv
  exact ⟨hc, hr⟩
theorem itF_iff {l : List Nd} {x : Itm} (h : itF l x = true) : HdF l x := by
  unfold itF at h
  by_cases h5 : x.kind = 5
  · rw [if_pos h5] at h
    simp only [Bool.and_eq_true, decide_eq_true_eq] at h
    exact ⟨fun _ => ⟨h.1.1.1, h.2, h.1.1.2, h.1.2⟩, fun k => absurd h5 k, ⟨by omega, by omega⟩, fun k => by omega, fun k => by omega, fun k => by omega, fun k => by omega⟩
  · rw [if_neg h5] at h
    by_cases hn : x.node < 0 ∨ (l.length : Int) ≤ x.node
    · rw [if_pos hn] at h; cases h
    · rw [if_neg hn] at h
      have hn2 : 0 ≤ x.node ∧ x.node < (l.length : Int) := by omega
      simp only at h
      by_cases h1 : x.kind = 1
      · rw [if_pos h1] at h
        simp only [Bool.and_eq_true, decide_eq_true_eq] at h
        exact ⟨fun k => absurd k h5, fun _ => hn2, ⟨by omega, by omega⟩, fun _ => h, fun k => by omega, fun k => by omega, fun k => by omega⟩
      · rw [if_neg h1] at h
        by_cases h2 : x.kind = 2
        · rw [if_pos h2] at h
          simp only [Bool.and_eq_true, decide_eq_true_eq] at h
          exact ⟨fun k => absurd k h5, fun _ => hn2, ⟨by omega, by omega⟩, fun k => by omega, fun _ => ⟨h.1.1.1, h.1.1.2, h.1.2, h.2⟩, fun k => by omega, fun k => by omega⟩
        · rw [if_neg h2] at h
          by_cases h3 : x.kind = 3
          · rw [if_pos h3] at h
            simp only [Bool.and_eq_true, decide_eq_true_eq] at h
            exact ⟨fun k => absurd k h5, fun _ => hn2, ⟨by omega, by omega⟩, fun k => by omega, fun k => by omega, fun _ => ⟨h.1.1.1, h.2, h.1.1.2, h.1.2⟩, fun k => by omega⟩
          · rw [if_neg h3] at h
            by_cases h4 : x.kind = 4
            · rw [if_pos h4] at h
              simp only [Bool.and_eq_true, decide_eq_true_eq] at h
              exact ⟨fun k => absurd k h5, fun _ => hn2, ⟨by omega, by omega⟩, fun k => by omega, fun k => by omega, fun k => by omega, fun _ => ⟨h.1.1.1, h.2, h.1.1.2, h.1.2⟩⟩
            · rw [if_neg h4] at h; cases h
theorem stF_form {l : List Nd} {s : List Itm} (h : stF l s = true) : ∀ y ∈ s, HdF l y := fun y hy => itF_iff (List.all_eq_true.1 h y hy)
theorem itF_of {l : List Nd} {x : Itm} (h : HdF l x) : itF l x = true := by
  unfold itF
  by_cases h5 : x.kind = 5
  · rw [if_pos h5]
    obtain ⟨a, b, c, d⟩ := h.stop h5
    simp only [Bool.and_eq_true, decide_eq_true_eq]
    exact ⟨⟨⟨a, c⟩, d⟩, b⟩
  · rw [if_neg h5]
    have hn := h.node h5
    have hk := h.kind
    rw [if_neg (by omega)]
    simp only
    by_cases h1 : x.kind = 1
    · rw [if_pos h1]; simpa [Bool.and_eq_true] using h.one h1
    · rw [if_neg h1]
      by_cases h2 : x.kind = 2
      · rw [if_pos h2]; simp only [Bool.and_eq_true, decide_eq_true_eq]; obtain ⟨a, b, c, d⟩ := h.two h2; exact ⟨⟨⟨a, b⟩, c⟩, d⟩
      · rw [if_neg h2]
        by_cases h3 : x.kind = 3
        · rw [if_pos h3]; simp only [Bool.and_eq_true, decide_eq_true_eq]; obtain ⟨a, b, c, d⟩ := h.three h3; exact ⟨⟨⟨a, c⟩, d⟩, b⟩
        · rw [if_neg h3, if_pos (by omega)]; simp only [Bool.and_eq_true, decide_eq_true_eq]; obtain ⟨a, b, c, d⟩ := h.four (by omega); exact ⟨⟨⟨a, c⟩, d⟩, b⟩
theorem form_stF {l : List Nd} {s : List Itm} (h : ∀ y ∈ s, HdF l y) : stF l s = true := List.all_eq_true.2 fun y hy => itF_of (h y hy)
end Go.Proofs.Ytidoofdofdhjpaa
/- Branches put together, those to one state as one: walked. -/
namespace Go.Proofs.Ytidoofdofdhjpaa
open Go Go.RowKit
set_option linter.unusedVariables false
set_option linter.unusedSimpArgs false
set_option maxRecDepth 100000
set_option maxHeartbeats 16000000

theorem add_len {s : List Itm} {m : Nat} : ∀ L : Brs, (addB L s m).length ≤ L.length + 1
  | [] => by unfold addB; simp
  | (t, k) :: L => by
    unfold addB
    split
    · simp
    · split
      · simp
      · rw [List.length_cons, List.length_cons]; have := add_len (s := s) (m := m) L; omega
theorem gt_len : ∀ P M : Brs, (gtB P M).length ≤ P.length + M.length
  | [], M => by show M.length ≤ _; omega
  | a :: P, M => by
    rw [gt_cons, List.length_cons]
    have h1 := gt_len P (addB M a.1 a.2)
    have h2 := add_len (s := a.1) (m := a.2) M
    omega
/-- The last branch, its number turned. -/
theorem own_last {w : World} {B g cap : Nat} {K : List HdE} {e : HdE} (h : OwnBr w B (.slice (some ⟨g, 0, none⟩) (K.length + 1) cap) (K ++ [e])) (z : Nat) :
    OwnBr (w.setCell ⟨g, K.length * 2 + 1, none⟩ (.int .i64 (z : Int))) B (.slice (some ⟨g, 0, none⟩) (K.length + 1) cap) (K ++ [⟨e.s, e.A, e.cap, z⟩]) ∧ w.frozen? ⟨g, K.length * 2 + 1, none⟩ = false ∧ (∃ v, w.cell? ⟨g, K.length * 2 + 1, none⟩ = some v) ∧ B ≤ g ∧ (∃ cur, Blk w g cur 41) := by
  have hlen : (K ++ [e]).length = K.length + 1 := by simp
  obtain ⟨h0, ⟨hv, hn⟩ | ⟨g', cap', cur, hv, hb, hg, hc, hm, hs, ht⟩⟩ := h
  · cases hv
  · obtain ⟨e1, -, e3⟩ := Value.slice.inj hv
    cases e1
    subst e3
    have hB : Blk w g cur 41 := hg
    have hB2 := hB.setCell (K.length * 2 + 1) (.int .i64 (z : Int))
    have hlen2 : (K ++ [(⟨e.s, e.A, e.cap, z⟩ : HdE)]).length = K.length + 1 := by simp
    have hlt : K.length * 2 + 1 < cur.size := by rw [hs]; rw [hlen] at hc; omega
    refine ⟨⟨flatBr_length _, .inr ⟨g, cap, _, by rw [hlen2], hb, hB2, by rw [hlen2]; rw [hlen] at hc; exact hc, hm, by simpa using hs, ?_⟩⟩, hB.frozen _, ⟨_, by rw [hB.cell]; exact Array.getElem?_eq_getElem hlt⟩, hb, cur, hB⟩
    rw [hlen2, Array.toList_setIfInBounds, List.take_set, ← hlen, ht, flatBr_append, flatBr_append]
    have hl : (flatBr K).length = K.length * 2 := flatBr_length K
    rw [List.set_append_right _ _ (by omega), hl, show K.length * 2 + 1 - K.length * 2 = 1 by omega]
    simp [flatBr, brC]
theorem own_blkB {w : World} {B : Nat} {v : Value} {l : List HdE} (h : OwnBr w B v l) {g : Nat} (hg : v.ownBlock = some g) : ∃ cur, Blk w g cur 41 := by
  obtain ⟨-, ⟨hv, -⟩ | ⟨g', cap, cur, hv, -, hgg, -⟩⟩ := h
  · rw [hv] at hg; cases hg
  · rw [hv] at hg; cases hg; exact ⟨cur, hgg⟩
theorem map_one {f : HdE → List Itm × Nat} {L : List HdE} {x : List Itm × Nat} (h : L.map f = [x]) : ∃ e, L = [e] ∧ f e = x := by
  match L, h with
  | [e], h => exact ⟨e, rfl, by simpa using h⟩
/-- What the putting together leaves, round by round. -/
structure TgS (w1 : World) (D : List HdE) (k : Nat) (v : Value) (K : List HdE) (w : World) : Prop where
  bel : Below w1.heap.size w1 w
  own : OwnBr w w1.heap.size v K
  brs : K.map brS = gtB ((D.take k).map brS) []
  ent : ∀ d ∈ K, ∃ e ∈ D, d.A = e.A ∧ d.s = e.s ∧ d.cap = e.cap
  nn : ∃ g n c, v = .slice (some ⟨g, 0, none⟩) n c
theorem TgS.push {w1 w w' : World} {D K : List HdE} {k : Nat} {v v' : Value} {b : HdE} (h : TgS w1 D k v K w) (h1 : OwnBr w' w1.heap.size v' (K ++ [b])) (hg : w.grownBy w' v.ownBlock) (hb : b ∈ D) (hbr : gtB ((D.take (k + 1)).map brS) [] = (K ++ [b]).map brS) : TgS w1 D (k + 1) v' (K ++ [b]) w' := by
  refine ⟨h.bel.grown hg h.bel.size (fun q hq => (World.ownsRow.lt h.own q hq).1), h1, hbr.symm, fun d hd => ?_, ?_⟩
  · rcases List.mem_append.1 hd with hd | hd
    · exact h.ent d hd
    · rw [List.mem_singleton.1 hd]; exact ⟨b, hb, rfl, rfl, rfl⟩
  · obtain ⟨-, ⟨-, hn0⟩ | ⟨g, cap, cur, hv, -⟩⟩ := h1
    · simp at hn0
    · exact ⟨_, _, _, hv⟩
theorem TgS.last {w1 w : World} {D K : List HdE} {k g c : Nat} {e : HdE} (h : TgS w1 D k (.slice (some ⟨g, 0, none⟩) (K.length + 1) c) (K ++ [e]) w) (z : Nat) (hbr : gtB ((D.take (k + 1)).map brS) [] = (K ++ [(⟨e.s, e.A, e.cap, z⟩ : HdE)]).map brS) : TgS w1 D (k + 1) (.slice (some ⟨g, 0, none⟩) (K.length + 1) c) (K ++ [⟨e.s, e.A, e.cap, z⟩]) (w.setCell ⟨g, K.length * 2 + 1, none⟩ (.int .i64 (z : Int))) := by
  obtain ⟨h1, -, -, h4, -⟩ := own_last h.own z
  refine ⟨h.bel.setCell (p := ⟨g, K.length * 2 + 1, none⟩) h4 _, h1, hbr.symm, fun d hd => ?_, h.nn⟩
  rcases List.mem_append.1 hd with hd | hd
  · exact h.ent d (List.mem_append_left _ hd)
  · rw [List.mem_singleton.1 hd]
    exact (h.ent e (List.mem_append_right _ (List.mem_singleton.2 rfl)))
def TgL (w1 : World) (D : List HdE) (v i : Value) (w : World) : Prop := ∃ (k : Nat) (K : List HdE), k ≤ D.length ∧ i = .int .i64 (k : Int) ∧ TgS w1 D k v K w
def TgP (D : List HdE) (B2 : Nat) (v : Value) (w : World) (e : Ending) (w' : World) : Prop :=
  ∃ u D', e = .returned u ∧ D'.map brS = gtB (D.map brS) [] ∧ OwnBr w' w.heap.size u D' ∧ (∀ d ∈ D', (∃ e ∈ D, d.A = e.A ∧ d.s = e.s ∧ d.cap = e.cap) ∧ OwnIt w' B2 d.v d.s) ∧ w.grownBy w' v.ownBlock
theorem nxTg_any (D : List HdE) (B B2 : Nat) (v : Value) (w : World) (h : OwnBr w B v D) (hB : B ≤ w.heap.size) (hr : ∀ e ∈ D, OwnIt w B2 e.v e.s) (hl : ∀ e ∈ D, e.s.length ≤ 1000) (hn : D.length ≤ 1000000) (hp : ∀ e ∈ D, 1 ≤ e.many ∧ e.many ≤ 2) :
    Calls Try.prog 35 #[v] w (TgP D B2 v w) := by
  obtain ⟨A0, c0, rfl, -, -⟩ := h.row
  have HSO := Lib.hid (nxSort_any D B B2 (.slice A0 D.length c0) w h hr (fun e he => by have := hl e he; omega) hn)
  have HR0 := Lib.hid hr
  have HL0 := Lib.hid hl
  have HP0 := Lib.hid hp
  have HV := Lib.hid (fun (g : Nat) (hg : (Value.slice A0 D.length c0).ownBlock = some g) => World.ownsRow.lt h g hg)
  have HOB := Lib.hid h
  clear h hr hl hp
  go_enter Try.func35, Try.ntmps35
  go_wp2_with fail
  refine HSO.out.mono ?_; rintro e w1 ⟨rfl, D1, hpm, hsr, ho1, hg1⟩
  have HPM := Lib.hid hpm
  have HSR := Lib.hid hsr
  have HO1 := Lib.hid ho1
  have HG1 := Lib.hid hg1
  have hlen : D.length = D1.length := hpm.length_eq.symm
  have HLN := Lib.hid hlen
  rw [hlen] at hn HG1 HV HO1 ⊢
  have HR1 : Hid (∀ e ∈ D1, OwnIt w1 B2 e.v e.s) := fun e he => World.ownsRow.kept (HR0.out e (HPM.out.mem_iff.1 he)) hg1 (by
    rcases hvb : e.v.ownBlock with _ | g
    · exact .inl rfl
    · refine .inr fun e9 => ?_
      obtain ⟨cur, hcb⟩ := own_blkB HOB.out e9.symm
      exact own_not (HR0.out e (HPM.out.mem_iff.1 he)) hcb (by decide) hvb)
  have HL1 : Hid (∀ e ∈ D1, e.s.length ≤ 1000) := fun e he => HL0.out e (HPM.out.mem_iff.1 he)
  have HP1 : Hid (∀ e ∈ D1, 1 ≤ e.many ∧ e.many ≤ 2) := fun e he => HP0.out e (HPM.out.mem_iff.1 he)
  have HGT : Hid (gtB (D.map brS) [] = gtB (D1.map brS) []) := gt_perm (HPM.out.symm.map brS) (fun a ha => by
    obtain ⟨e, he, rfl⟩ := List.mem_map.1 ha
    exact HP0.out e he)
  have HRW : Hid (BrRow w1 A0 D1) := by
    obtain ⟨a, c, e1, -, hr⟩ := ho1.row
    obtain ⟨e2, -, -⟩ := Value.slice.inj e1
    subst e2; exact hr
  clear hpm hsr ho1 hg1 HSO HR0 HL0 HP0 hlen
  clear HOB
  go_upto_region 3 with (refine wpList_make_br rfl _ _ rfl (D1.length : Int) D1.length rfl rfl rfl (by omega) ?_; intro w2 hown hbel; have HOWN := Lib.hid hown; have HBEL := Lib.hid hbel; clear hown hbel)
  have HS0 : Hid (TgS w1 D1 0 (.slice (some ⟨w1.heap.size, 0, none⟩) 0 D1.length) [] w2) := ⟨HBEL.out, HOWN.out, rfl, (fun d hd => by cases hd), ⟨_, _, _, rfl⟩⟩
  clear HOWN HBEL
  go_wp2
  go_loopw [3, 14] (TgL w1 D1) (fun _ i _ => D1.length - (intOf i).toNat)
  case atStart => exact ⟨0, [], Nat.zero_le _, rfl, HS0.out⟩
  case round =>
    obtain ⟨k, K, hk, rfl, hs⟩ := hrel
    obtain ⟨g, n3, c3, rfl⟩ := hs.nn
    have HS := Lib.hid hs
    clear hs HS0
    by_cases hlt : k < D1.length
    · have hltz : (k : Int) < (D1.length : Int) := by omega
      obtain ⟨bd, od, hA, hbd, hcd⟩ := (HRW.out.later HS.out.bel) k hlt
      subst hA
      obtain ⟨b, hb⟩ : ∃ b, D1.getD k hd0 = b := ⟨_, rfl⟩
      rw [hb] at hcd
      have hbm : b ∈ D1 := by rw [← hb, List.getD_eq_getElem?_getD, List.getElem?_eq_getElem hlt]; exact List.getElem_mem hlt
      have HBM := Lib.hid hbm
      have HBE : Hid (D1[k]? = some b) := by rw [← hb, List.getD_eq_getElem?_getD, List.getElem?_eq_getElem hlt]; rfl
      have d0 : wr.cell? ⟨bd, od + k * 2, none⟩ = some (.slice b.A b.s.length b.cap) := hcd 0 (by decide)
      have d1 : wr.cell? ⟨bd, od + k * 2 + 1, none⟩ = some (.int .i64 (b.many : Int)) := hcd 1 (by decide)
      have hbA := (Below.refl wr.heap.size wr).alloc (Nat.le_refl _) (.cells (brC b) 41)
      have HXB := Lib.hid (Blk.new wr (brC b) 41)
      have HBA := Lib.hid hbA
      unfold brC at HXB HBA
      clear hb hbm hcd
      have HTK : Hid ((D1.take (k + 1)).map brS = (D1.take k).map brS ++ [brS b]) := by
        unfold Hid
        rw [List.take_add_one, HBE.out, List.map_append]; rfl
      have hle : ∀ a ∈ (D1.take k).map brS, stC a.1 (brS b).1 ≤ 0 := fun a ha => by
        obtain ⟨e, he, rfl⟩ := List.mem_map.1 ha
        obtain ⟨j, hj, rfl⟩ := List.mem_iff_getElem.1 he
        rw [List.length_take] at hj
        rw [List.getElem_take]
        obtain ⟨hk2, hb2⟩ := List.getElem?_eq_some_iff.1 HBE.out
        have := (List.pairwise_iff_getElem.1 HSR.out) j k (by omega) hk2 (by omega)
        rw [hb2] at this; exact this
      have hpp : PosB ((D1.take k).map brS) := fun a ha => by
        obtain ⟨e, he, rfl⟩ := List.mem_map.1 ha
        exact HP1.out e (List.mem_of_mem_take he)
      have hnx := gt_next hle hpp
      rw [← HTK.out, ← HS.out.brs] at hnx
      have HXX : Hid (∀ w', Below wr.heap.size wr w' → TgS w1 D1 k (.slice (some ⟨g, 0, none⟩) n3 c3) K w') := fun w' hb => ⟨HS.out.bel.trans (hb.mono HS.out.bel.size), HS.out.own.later hb, HS.out.brs, HS.out.ent, HS.out.nn⟩
      obtain ⟨a9, c9, e9, hnc9, hrow9⟩ := HS.out.own.row
      obtain ⟨e10, e11, -⟩ := Value.slice.inj e9
      subst e10
      subst e11
      clear hle hpp HTK e9 hnc9
      have HBI : Hid (b.A.isNone → True) := fun _ => trivial
      have HBR : Hid (ItRow wr b.A b.s) := ((own_it (HR1.out b HBM.out)).2).later HS.out.bel
      have HBS : Hid (b.s.length ≤ 1000) := HL1.out b HBM.out
      have HBP : Hid (1 ≤ b.many ∧ b.many ≤ 2) := HP1.out b HBM.out
      have hKl : K.length ≤ D1.length := by
        have h1 := congrArg List.length HS.out.brs
        have h2 := gt_len ((D1.take k).map brS) []
        rw [List.length_map] at h1 h2
        rw [List.length_take] at h2
        simp only [List.length_nil] at h2
        omega
      go_upto_region 6 with (fail)
      clear d0 d1
      generalize wr.alloc (.cells #[.slice b.A b.s.length b.cap, .int .i64 (b.many : Int)] 41) = wA at *
      obtain ⟨bx, hbx⟩ : ∃ bx, wr.heap.size = bx := ⟨_, rfl⟩
      have HBX := Lib.hid hbx
      rw [hbx] at HXB ⊢
      clear hbx
      rcases hnx with ⟨h1, h2⟩ | ⟨K0, t, kk, h1, ⟨h2, h3⟩ | ⟨h2, h3⟩⟩
      · have hK0 : K = [] := by simpa using h1
        subst hK0
        have HN2 : Hid (gtB ((D1.take (k + 1)).map brS) [] = ([] ++ [b]).map brS) := h2
        clear h1 h2 hrow9
        simp only [List.length_nil] at HXX HS ⊢
        go_upto_region 7 with (fail)
        refine wp_region_stable (S := (BlwS wA)) (hSt := fun _ _ h hb => h.later hb) (plan := [[(6, none)], [(21, some 0)], [(22, some 1)], [(3, none)], [(6, none)], [(24, some 3), (25, some 4)], [(26, some 5)], [(27, some 6)], [(5, none)], [(29, some 8)], [(28, some 7), (30, some 9)], [(31, some 10)], [(23, some 2), (32, some 11)]]) (by kernel_rfl) (by kernel_rfl) (by kernel_rfl) ?hS ?_
        rotate_left
        iterate 13 first
          | (refine chain_skip (by rfl) (by rfl) ?_)
          | (apply chain_want (by rfl)
             · intro act wx hS hr
               simp at hr
               go_simp
               (try go_ints)
               first
                 | exact Done.same
            )
        show ∀ w', _ → _
        intro wz hz
        simp [Act.put]
        case hS => exact Below.refl _ _
        have HBZ : Hid (Below wr.heap.size wr wz) := HBA.out.trans (Below.mono hz HBA.out.size)
        have HXZ := Lib.hid (HXB.out.later hz)
        clear hz
        have hb4 := (Below.refl wz.heap.size wz).alloc (Nat.le_refl _) (.cells #[.slice b.A b.s.length b.cap, .int .i64 (b.many : Int)] 41)
        have HX4 : Hid (Blk (wz.alloc (.cells #[.slice b.A b.s.length b.cap, .int .i64 (b.many : Int)] 41)) wz.heap.size (brC b) 41) := Blk.new wz #[.slice b.A b.s.length b.cap, .int .i64 (b.many : Int)] 41
        have HS4 := Lib.hid (HXX.out _ (HBZ.out.trans (hb4.mono HBZ.out.size)))
        have c0 := HXZ.out.cell 0
        have c1 := HXZ.out.cell 1
        simp at c0 c1
        have HKL : Hid (([] : List HdE).length < 1073741824) := Nat.lt_of_le_of_lt hKl (by omega)
        clear hb4
        go_wp2_with (at_builtin; refine wpList_append_br rfl _ _ rfl w1.heap.size (.slice (some ⟨g, 0, none⟩) 0 c3) ([] : List HdE) rfl HS4.out.own wz.heap.size b rfl HX4.out HKL.out HS4.out.bel.size ?_; intro v5 w5 h5 hg5; have HNS : Hid (TgS w1 D1 (k + 1) v5 (([] : List HdE) ++ [b]) w5) := TgS.push HS4.out h5 hg5 HBM.out HN2.out; clear h5 hg5)
        go_roundw
        case rel => exact ⟨k + 1, ([] : List HdE) ++ [b], hlt, by go_num, HNS.out⟩
        case measure => simp [intOf]; omega
      · have hpos := (gt_all ((D1.take k).map brS) [] (fun a ha => by
          obtain ⟨e, he, rfl⟩ := List.mem_map.1 ha
          exact HP1.out e (List.mem_of_mem_take he)) List.Pairwise.nil (fun a h => by cases h)).2.1
        rw [← HS.out.brs] at hpos
        obtain ⟨K1, L2, rfl, h5, h6⟩ := List.map_eq_append_iff.1 h1
        obtain ⟨e, rfl, h7⟩ := map_one h6
        cases h7
        obtain ⟨ed, hed, q1, q2, q3⟩ := HS.out.ent e (by simp)
        have HIE : Hid (ItRow wr e.A e.s) := by
          unfold Hid
          rw [q1, q2]
          exact ((own_it (HR1.out ed hed)).2).later HS.out.bel
        have HLE : Hid (e.s.length ≤ 1000) := by unfold Hid; rw [q2]; exact HL1.out ed hed
        have hlk : (K1 ++ [e]).length = K1.length + 1 := by simp
        have hce : wr.cell? ⟨g, K1.length * 2, none⟩ = some (.slice e.A e.s.length e.cap) ∧ wr.cell? ⟨g, K1.length * 2 + 1, none⟩ = some (.int .i64 (e.many : Int)) ∧ g < wr.heap.size := by
          obtain ⟨b9, o9, e9, hlt9, hc9⟩ := hrow9 K1.length (by simp)
          cases e9
          have hd : (K1 ++ [e]).getD K1.length hd0 = e := by simp
          rw [hd] at hc9
          refine ⟨?_, ?_, hlt9⟩
          · have := hc9 0 (by decide); simpa [brC] using this
          · have := hc9 1 (by decide); simpa [brC] using this
        have HCL : Hid (∀ w', BlwS wA w' → (w'.cell? ⟨g, K1.length * 2, none⟩ = some (.slice e.A e.s.length e.cap) ∧ w'.cell? ⟨g, K1.length * 2 + 1, none⟩ = some (.int .i64 (e.many : Int))) ∧ w'.cell? ⟨bx, 0, none⟩ = some (.slice b.A b.s.length b.cap) ∧ w'.cell? ⟨bx, 1, none⟩ = some (.int .i64 (b.many : Int))) := fun w' hb => by
          have hb9 := HBA.out.trans (Below.mono hb HBA.out.size)
          refine ⟨⟨(hb9.cell (p := ⟨g, _, none⟩) hce.2.2).trans hce.1, (hb9.cell (p := ⟨g, _, none⟩) hce.2.2).trans hce.2.1⟩, ?_, ?_⟩
          · have := (HXB.out.later hb).cell 0; simpa using this
          · have := (HXB.out.later hb).cell 1; simpa using this
        have HCM : Hid (∀ w', BlwS wA w' → Calls Try.prog 58 #[.slice e.A e.s.length e.cap, .slice b.A b.s.length b.cap] w' (Ans w' (.int .i64 (stC e.s b.s)))) := fun w' hb => by
          have hb9 := HBA.out.trans (Below.mono hb HBA.out.size)
          exact (icompareD e.s b.s e.A b.A e.cap b.cap w' (HIE.out.later hb9) (HBR.out.later hb9) (by have := HLE.out; omega) (by have := HBS.out; omega)).mono fun e w'' h => ⟨h.1, h.2.below⟩
        have hem : e.many ≤ 2 := (hpos (brS e) (by simp)).2
        have hbm := HBP.out.2
        have hbe : e.s = b.s := h2
        have hnz : (stC e.s b.s == 0) = true := by rw [beq_iff_eq, hbe, stC_self]
        obtain ⟨zz, hzz⟩ : ∃ zz, zz = min 2 (e.many + b.many) := ⟨_, rfl⟩
        have HN2 : Hid (gtB ((D1.take (k + 1)).map brS) [] = (K1 ++ [(⟨e.s, e.A, e.cap, zz⟩ : HdE)]).map brS) := by
          unfold Hid
          rw [h3, List.map_append, h5, hzz]; rfl
        have hmn : min ((e.many : Int) + (b.many : Int)) 2 = (zz : Int) := by omega
        have hmn2 : min 2 ((e.many : Int) + (b.many : Int)) = (zz : Int) := by omega
        have hn0 : K1.length < K1.length + 1 := by omega
        have hlz : ((K1 ++ [e]).length : Int) - 1 = (K1.length : Int) := by rw [hlk]; omega
        have HPU : Hid (∀ w', BlwS wA w' → w'.frozen? ⟨g, K1.length * 2 + 1, none⟩ = false ∧ TgS w1 D1 (k + 1) (.slice (some ⟨g, 0, none⟩) (K1.length + 1) c3) (K1 ++ [(⟨e.s, e.A, e.cap, zz⟩ : HdE)]) (w'.setCell ⟨g, K1.length * 2 + 1, none⟩ (.int .i64 (zz : Int)))) := fun w' hb => by
          have h9 := HXX.out w' (HBA.out.trans (Below.mono hb HBA.out.size))
          rw [hlk] at h9
          exact ⟨(own_last h9.own zz).2.1, h9.last zz HN2.out⟩
        clear hce hrow9 h1 h2 h3 h5 h6 hed q1 q2 q3 hpos hzz hbe
        generalize stC e.s b.s = z at *
        go_upto_region 7 with (fail)
        have hge : decide ((K1.length : Int) ≥ 0) = true := by rw [decide_eq_true_iff]; omega
        have hge2 : (K1.length : Int) ≥ 0 := by omega
        obtain ⟨m0, hm0⟩ : ∃ m0, (K1 ++ [e]).length = m0 := ⟨_, rfl⟩
        have HM0 := Lib.hid hm0
        have hml : K1.length < m0 := by omega
        have hmlz : (K1.length : Int) < (m0 : Int) := by omega
        have hm0n : ¬ (K1.length : Int) < 0 := by omega
        rw [hm0]
        have HML : Hid (m0 = K1.length + 1) := by unfold Hid; omega
        clear hm0 hn0 hlk hlz
        refine wp_region_stable (S := (BlwS wA)) (hSt := fun _ _ h hb => h.later hb) (plan := [[(6, none)], [(21, some 0)], [(22, some 1)], [(3, none)], [(6, none)], [(24, some 3), (25, some 4)], [(26, some 5)], [(27, some 6)], [(5, none)], [(29, some 8)], [(28, some 7), (30, some 9)], [(31, some 10)], [(23, some 2), (32, some 11)]]) (by kernel_rfl) (by kernel_rfl) (by kernel_rfl) ?hS ?_
        rotate_left
        iterate 13 first
          | (refine chain_skip (by rfl) (by rfl) ?_)
          | (apply chain_want (by rfl)
             · intro act wx hS hr
               simp at hr
               obtain ⟨⟨k0, k1⟩, b0, b1⟩ := HCL.out _ hS
               go_simp
               (try go_ints)
               first
                 | ((with_reducible refine (HCM.out _ hS).mono ?_); rintro e w' ⟨rfl, hb⟩; exact Done.mk hb)
                 | exact Done.same
            )
        show ∀ w', _ → _
        intro w8 hw8
        simp [Act.put]
        case hS => exact Below.refl _ _
        go_upto_region 8 with (fail)
        refine wp_region_stable_last (S := (BlwS wA)) (hSt := fun _ _ h hb => h.later hb) (plan := [[(3, none)], [(6, none)], [(3, none)], [(6, none)], [(36, some 2), (37, some 3)], [(38, some 4)], [(39, some 5)], [(5, none)], [(41, some 7)], [(40, some 6), (42, some 8)], [(43, some 9)], [(34, some 0), (35, some 1)], [(45, some 11)]]) rfl (by kernel_rfl) (by kernel_rfl) (by kernel_rfl) (by kernel_rfl) ?hS ?_
        rotate_left
        simp only [List.dropLast]
        iterate 13 first
          | (refine chain_skip (by rfl) (by rfl) ?_)
          | (apply chain_want (by rfl)
             · intro act wx hS hr
               simp at hr
               obtain ⟨⟨k0, k1⟩, b0, b1⟩ := HCL.out _ hS
               go_simp
               (try go_ints)
               first
                 | exact Done.same
            )
        show ∀ w', _ → _
        intro w9 hw9
        simp [Act.put]
        case hS => exact hw8
        obtain ⟨hfz, hnx9⟩ := HPU.out _ hw9
        obtain ⟨⟨k0, k1⟩, b0, b1⟩ := HCL.out _ hw9
        rw [← HML.out] at hnx9
        have HNX := Lib.hid hnx9
        clear hnx9 hw9 hw8
        go_wp2
        go_roundw
        case rel => exact ⟨k + 1, _, hlt, by go_num, HNX.out⟩
        case measure => simp [intOf]; omega
      · skip
        obtain ⟨K1, L2, rfl, h5, h6⟩ := List.map_eq_append_iff.1 h1
        obtain ⟨e, rfl, h7⟩ := map_one h6
        cases h7
        obtain ⟨ed, hed, q1, q2, q3⟩ := HS.out.ent e (by simp)
        have HIE : Hid (ItRow wr e.A e.s) := by
          unfold Hid
          rw [q1, q2]
          exact ((own_it (HR1.out ed hed)).2).later HS.out.bel
        have HLE : Hid (e.s.length ≤ 1000) := by unfold Hid; rw [q2]; exact HL1.out ed hed
        have hlk : (K1 ++ [e]).length = K1.length + 1 := by simp
        have hce : wr.cell? ⟨g, K1.length * 2, none⟩ = some (.slice e.A e.s.length e.cap) ∧ wr.cell? ⟨g, K1.length * 2 + 1, none⟩ = some (.int .i64 (e.many : Int)) ∧ g < wr.heap.size := by
          obtain ⟨b9, o9, e9, hlt9, hc9⟩ := hrow9 K1.length (by simp)
          cases e9
          have hd : (K1 ++ [e]).getD K1.length hd0 = e := by simp
          rw [hd] at hc9
          refine ⟨?_, ?_, hlt9⟩
          · have := hc9 0 (by decide); simpa [brC] using this
          · have := hc9 1 (by decide); simpa [brC] using this
        have HCL : Hid (∀ w', BlwS wA w' → (w'.cell? ⟨g, K1.length * 2, none⟩ = some (.slice e.A e.s.length e.cap) ∧ w'.cell? ⟨g, K1.length * 2 + 1, none⟩ = some (.int .i64 (e.many : Int))) ∧ w'.cell? ⟨bx, 0, none⟩ = some (.slice b.A b.s.length b.cap) ∧ w'.cell? ⟨bx, 1, none⟩ = some (.int .i64 (b.many : Int))) := fun w' hb => by
          have hb9 := HBA.out.trans (Below.mono hb HBA.out.size)
          refine ⟨⟨(hb9.cell (p := ⟨g, _, none⟩) hce.2.2).trans hce.1, (hb9.cell (p := ⟨g, _, none⟩) hce.2.2).trans hce.2.1⟩, ?_, ?_⟩
          · have := (HXB.out.later hb).cell 0; simpa using this
          · have := (HXB.out.later hb).cell 1; simpa using this
        have HCM : Hid (∀ w', BlwS wA w' → Calls Try.prog 58 #[.slice e.A e.s.length e.cap, .slice b.A b.s.length b.cap] w' (Ans w' (.int .i64 (stC e.s b.s)))) := fun w' hb => by
          have hb9 := HBA.out.trans (Below.mono hb HBA.out.size)
          exact (icompareD e.s b.s e.A b.A e.cap b.cap w' (HIE.out.later hb9) (HBR.out.later hb9) (by have := HLE.out; omega) (by have := HBS.out; omega)).mono fun e w'' h => ⟨h.1, h.2.below⟩
        have hnz : (stC e.s b.s == 0) = false := by
          rw [beq_eq_false_iff_ne]
          exact fun q => h2 ((stC_zero _ _).1 q)
        have HN2 : Hid (gtB ((D1.take (k + 1)).map brS) [] = ((K1 ++ [e]) ++ [b]).map brS) := by
          unfold Hid
          rw [h3, List.map_append, List.map_append, h5]; rfl
        have hn0 : K1.length < K1.length + 1 := by omega
        have hlz : ((K1 ++ [e]).length : Int) - 1 = (K1.length : Int) := by rw [hlk]; omega
        clear hce hrow9 h1 h2 h3 h5 h6 hed q1 q2 q3
        generalize stC e.s b.s = z at *
        go_upto_region 7 with (fail)
        have hge : decide ((K1.length : Int) ≥ 0) = true := by rw [decide_eq_true_iff]; omega
        have hge2 : (K1.length : Int) ≥ 0 := by omega
        obtain ⟨m0, hm0⟩ : ∃ m0, (K1 ++ [e]).length = m0 := ⟨_, rfl⟩
        have HM0 := Lib.hid hm0
        have hml : K1.length < m0 := by omega
        have hmlz : (K1.length : Int) < (m0 : Int) := by omega
        have hm0n : ¬ (K1.length : Int) < 0 := by omega
        rw [hm0]
        clear hm0 hn0 hlk hlz
        refine wp_region_stable (S := (BlwS wA)) (hSt := fun _ _ h hb => h.later hb) (plan := [[(6, none)], [(21, some 0)], [(22, some 1)], [(3, none)], [(6, none)], [(24, some 3), (25, some 4)], [(26, some 5)], [(27, some 6)], [(5, none)], [(29, some 8)], [(28, some 7), (30, some 9)], [(31, some 10)], [(23, some 2), (32, some 11)]]) (by kernel_rfl) (by kernel_rfl) (by kernel_rfl) ?hS ?_
        rotate_left
        iterate 13 first
          | (refine chain_skip (by rfl) (by rfl) ?_)
          | (apply chain_want (by rfl)
             · intro act wx hS hr
               simp at hr
               obtain ⟨⟨k0, k1⟩, b0, b1⟩ := HCL.out _ hS
               go_simp
               (try go_ints)
               first
                 | ((with_reducible refine (HCM.out _ hS).mono ?_); rintro e w' ⟨rfl, hb⟩; exact Done.mk hb)
                 | exact Done.same
            )
        show ∀ w', _ → _
        intro wz hz
        simp [Act.put]
        case hS => exact Below.refl _ _
        have HBZ : Hid (Below wr.heap.size wr wz) := HBA.out.trans (Below.mono hz HBA.out.size)
        have HXZ := Lib.hid (HXB.out.later hz)
        clear hz
        rw [← HM0.out]
        have hb4 := (Below.refl wz.heap.size wz).alloc (Nat.le_refl _) (.cells #[.slice b.A b.s.length b.cap, .int .i64 (b.many : Int)] 41)
        have HX4 : Hid (Blk (wz.alloc (.cells #[.slice b.A b.s.length b.cap, .int .i64 (b.many : Int)] 41)) wz.heap.size (brC b) 41) := Blk.new wz #[.slice b.A b.s.length b.cap, .int .i64 (b.many : Int)] 41
        have HS4 := Lib.hid (HXX.out _ (HBZ.out.trans (hb4.mono HBZ.out.size)))
        have c0 := HXZ.out.cell 0
        have c1 := HXZ.out.cell 1
        simp at c0 c1
        have HKL : Hid ((K1 ++ [e]).length < 1073741824) := Nat.lt_of_le_of_lt hKl (by omega)
        clear hb4
        go_wp2_with (at_builtin; refine wpList_append_br rfl _ _ rfl w1.heap.size (.slice (some ⟨g, 0, none⟩) ((K1 ++ [e]).length) c3) (K1 ++ [e]) rfl HS4.out.own wz.heap.size b rfl HX4.out HKL.out HS4.out.bel.size ?_; intro v5 w5 h5 hg5; have HNS : Hid (TgS w1 D1 (k + 1) v5 ((K1 ++ [e]) ++ [b]) w5) := TgS.push HS4.out h5 hg5 HBM.out HN2.out; clear h5 hg5)
        go_roundw
        case rel => exact ⟨k + 1, (K1 ++ [e]) ++ [b], hlt, by go_num, HNS.out⟩
        case measure => simp [intOf]; omega
    · obtain rfl : k = D1.length := by omega
      have hltz : ¬ ((D1.length : Nat) : Int) < (D1.length : Int) := by omega
      have HP : Hid (TgP D B2 (.slice A0 D1.length c0) w (.returned (.slice (some ⟨g, 0, none⟩) n3 c3)) wr) := by
        refine ⟨_, K, rfl, ?_, HS.out.own.lower HG1.out.size, fun d hd => ?_, grown_below HG1.out HS.out.bel⟩
        · rw [HS.out.brs, List.take_length, HGT.out]
        · obtain ⟨e, he, q1, q2, q3⟩ := HS.out.ent d hd
          refine ⟨⟨e, HPM.out.mem_iff.1 he, q1, q2, q3⟩, ?_⟩
          have h1 := (HR1.out e he).later HS.out.bel
          have h2 : d.v = e.v := by unfold HdE.v; rw [q1, q2, q3]
          rw [h2, q2]; exact h1
      obtain ⟨a9, c9, e9, -, -⟩ := HS.out.own.row
      obtain ⟨e10, e11, -⟩ := Value.slice.inj e9
      clear HS hlt
      go_wp2
      go_ret
      rw [HLN.out]
      exact HP.out
end Go.Proofs.Ytidoofdofdhjpaa
/- How long what is ready may be: the plain mathematics. -/
namespace Go.Proofs.Ytidoofdofdhjpaa
open Go
set_option linter.unusedVariables false
set_option linter.unusedSimpArgs false

/-- How many items one item may be. -/
def liI (x : Itm) : Nat := if x.kind = 1 ∨ x.kind = 2 then x.node.toNat + 1 else 1
def liS : List Itm → Nat
  | [] => 0
  | x :: r => max (liI x + r.length) (liS r)
theorem liI_pos (x : Itm) : 1 ≤ liI x := by unfold liI; split <;> omega
theorem li_cons (x : Itm) (r : List Itm) : liS (x :: r) = max (liI x + r.length) (liS r) := rfl
theorem li_len : ∀ s : List Itm, s.length ≤ liS s
  | [] => Nat.le_refl _
  | x :: r => by rw [li_cons, List.length_cons]; have := liI_pos x; omega
theorem li_node (a : Int) : liI ⟨1, a, 0, 0⟩ = a.toNat + 1 := by unfold liI; rw [if_pos (.inl rfl)]
theorem li_rep (a lo hi : Int) : liI ⟨2, a, lo, hi⟩ = a.toNat + 1 := by unfold liI; rw [if_pos (.inr rfl)]
theorem li_open {l : List Nd} (hF : Form l) {x : Itm} {r t : List Itm} (hx : HdF l x) (hrd : rdyS l (x :: r) = false) (ht : t ∈ opnS l x r) : liS t ≤ liS (x :: r) := by
  obtain ⟨k, nd, lo, hi⟩ := x
  have hkd := hx.kind
  have hp := liI_pos ⟨k, nd, lo, hi⟩
  have hr := li_len r
  rw [li_cons]
  unfold opnS at ht
  simp only at ht hkd
  by_cases h5 : k = 5
  · rw [if_pos h5] at ht
    split at ht
    · rw [List.mem_singleton.1 ht]; omega
    · cases ht
  rw [if_neg h5] at ht
  have hn := hx.node h5
  simp only at hn
  have hil : nd.toNat < l.length := by omega
  have kids : (4 ≤ (atN l nd.toNat).kind → 0 ≤ (atN l nd.toNat).a ∧ (atN l nd.toNat).a < (nd.toNat : Int)) ∧ ((atN l nd.toNat).kind = 4 ∨ (atN l nd.toNat).kind = 5 → 0 ≤ (atN l nd.toNat).b ∧ (atN l nd.toNat).b < (nd.toNat : Int)) := by
    have hfl := firstP_le l (nd.toNat - 1)
    cases hd_cs hF hil with
    | leaf h1 hf => unfold leafK at h1; exact ⟨fun h => by omega, fun h => by omega⟩
    | one h1 hi0 ha hb h7 hr hcl hf => exact ⟨fun h => by omega, fun h => by omega⟩
    | two h1 hi0 hb ha hf0 hl hcl hf => exact ⟨fun h => by omega, fun h => by omega⟩
  by_cases h2 : k = 2
  · subst h2
    rw [if_pos rfl] at ht
    rw [li_rep]
    obtain ⟨h7, -⟩ := hx.two rfl
    simp only at h7
    have ha := kids.1 (by omega)
    rcases List.mem_append.1 ht with ht | ht
    · split at ht
      · rw [List.mem_singleton.1 ht]; omega
      · cases ht
    · split at ht
      · rw [List.mem_singleton.1 ht, li_cons, li_cons, li_node, li_rep, List.length_cons]
        omega
      · cases ht
  rw [if_neg h2] at ht
  by_cases h1 : k = 1
  · subst h1
    rw [show liI ⟨1, nd, lo, hi⟩ = nd.toNat + 1 by unfold liI; rw [if_pos (.inl rfl)]]
    by_cases n1 : (atN l nd.toNat).kind = 1
    · rw [if_pos n1] at ht
      rw [List.mem_singleton.1 ht]; omega
    rw [if_neg n1] at ht
    by_cases n3 : (atN l nd.toNat).kind = 3
    · rw [if_pos n3] at ht
      rw [List.mem_singleton.1 ht, li_cons]
      have : liI ⟨3, nd, 0, 0⟩ = 1 := by unfold liI; rw [if_neg (by simp)]
      omega
    rw [if_neg n3] at ht
    by_cases n4 : (atN l nd.toNat).kind = 4
    · rw [if_pos n4] at ht
      have ha := kids.1 (by omega)
      have hb := kids.2 (by omega)
      rw [List.mem_singleton.1 ht, li_cons, li_cons, li_node, li_node, List.length_cons]
      omega
    rw [if_neg n4] at ht
    by_cases n5 : (atN l nd.toNat).kind = 5
    · rw [if_pos n5] at ht
      have ha := kids.1 (by omega)
      have hb := kids.2 (by omega)
      rcases List.mem_cons.1 ht with h | h
      · rw [h, li_cons, li_node]; omega
      · rw [List.mem_singleton.1 h, li_cons, li_node]; omega
    rw [if_neg n5] at ht
    by_cases n6 : (atN l nd.toNat).kind = 6
    · rw [if_pos n6] at ht
      have ha := kids.1 (by omega)
      rcases List.mem_cons.1 ht with h | h
      · rw [h]; omega
      · rw [List.mem_singleton.1 h, li_cons, li_cons, li_node, List.length_cons, show liI ⟨1, nd, lo, hi⟩ = nd.toNat + 1 by unfold liI; rw [if_pos (.inl rfl)]]
        omega
    rw [if_neg n6] at ht
    by_cases n7 : (atN l nd.toNat).kind = 7
    · rw [if_pos n7] at ht
      rw [List.mem_singleton.1 ht, li_cons, li_rep]; omega
    rw [if_neg n7] at ht
    cases ht
  · exfalso
    unfold rdyS at hrd
    rcases (by omega : k = 3 ∨ k = 4) with rfl | rfl <;> simp at hrd
theorem li_rch {l : List Nd} (hR : Rgt l) : ∀ (N : Nat) (s : List Itm), dpS l s ≤ N → (∀ y ∈ s, HdF l y) → ∀ t ∈ rchS l s, t.length ≤ liS s := fun N => by
  induction N with
  | zero =>
    intro s hN hs t ht
    cases hrd : rdyS l s with
    | true => rw [rch_ready hrd] at ht; rw [List.mem_singleton.1 ht]; exact li_len s
    | false =>
      cases s with
      | nil => unfold rdyS at hrd; cases hrd
      | cons x r =>
        rw [rch_open hR hs hrd] at ht
        obtain ⟨q, hq, -⟩ := List.mem_flatMap.1 ht
        have := opn_lt hR (hs x (List.mem_cons_self ..)) hrd hq
        omega
  | succ N ih =>
    intro s hN hs t ht
    cases hrd : rdyS l s with
    | true => rw [rch_ready hrd] at ht; rw [List.mem_singleton.1 ht]; exact li_len s
    | false =>
      cases s with
      | nil => unfold rdyS at hrd; cases hrd
      | cons x r =>
        rw [rch_open hR hs hrd] at ht
        obtain ⟨q, hq, ht⟩ := List.mem_flatMap.1 ht
        have h1 := opn_lt hR (hs x (List.mem_cons_self ..)) hrd hq
        have h2 := ih q (by omega) (opn_form hR.1 (hs x (List.mem_cons_self ..)) (fun y hy => hs y (List.mem_cons_of_mem _ hy)) hq) t ht
        have h3 := li_open hR.1 (hs x (List.mem_cons_self ..)) hrd hq
        omega
theorem li_le {l : List Nd} (h0 : 0 < l.length) : ∀ {s : List Itm}, (∀ y ∈ s, HdF l y) → liS s ≤ l.length + s.length
  | [], _ => Nat.zero_le _
  | x :: r, h => by
    rw [li_cons, List.length_cons]
    have h1 := li_le h0 (s := r) fun y hy => h y (List.mem_cons_of_mem _ hy)
    have h2 : liI x ≤ l.length := by
      unfold liI
      have hx := h x (List.mem_cons_self ..)
      split
      · have := hx.node (by omega); omega
      · omega
    omega
/-- A head is no longer than the state and the description. -/
theorem hds_slen {l : List Nd} (hR : Rgt l) {s : List Itm} (hs : ∀ y ∈ s, HdF l y) : ∀ a ∈ hdsL l s, a.1.length ≤ l.length + s.length := fun a ha => by
  have h1 : a.1 ∈ rchS l s := by
    rw [← brsL_keys]; exact List.mem_map_of_mem ha
  have h2 := li_rch hR _ s (Nat.le_refl _) hs a.1 h1
  have h3 := li_le hR.1.1 hs
  omega
end Go.Proofs.Ytidoofdofdhjpaa
/- On: walked. -/
namespace Go.Proofs.Ytidoofdofdhjpaa
open Go Go.RowKit
set_option linter.unusedVariables false
set_option linter.unusedSimpArgs false
set_option maxRecDepth 100000
set_option maxHeartbeats 16000000

/-- Branches answered, each with a state of its own. -/
def BrsP (T : Brs) (n : Nat) (w : World) (e : Ending) (w' : World) : Prop :=
  ∃ v D, e = .returned v ∧ D.map brS = T ∧ OwnBr w' w.heap.size v D ∧ (∀ d ∈ D, OwnIt w' w.heap.size d.v d.s ∧ d.s.length ≤ n) ∧ Below w.heap.size w w'
/-- What the gathering leaves. -/
structure NoS (w3 : World) (l : List Nd) (u : UInt8) (D : List HdE) (n k : Nat) (v : Value) (E : List HdE) (w : World) : Prop where
  bel : Below w3.heap.size w3 w
  own : OwnBr w w3.heap.size v E
  brs : E.map brS = rdB l u ((D.take k).map brS)
  ent : ∀ d ∈ E, OwnIt w w3.heap.size d.v d.s ∧ d.s.length ≤ n ∧ 1 ≤ d.many ∧ d.many ≤ 2
def NoL (w3 : World) (l : List Nd) (u : UInt8) (D : List HdE) (n : Nat) (v i : Value) (w : World) : Prop := ∃ (k : Nat) (E : List HdE), k ≤ D.length ∧ i = .int .i64 (k : Int) ∧ NoS w3 l u D n k v E w
theorem NoS.later {w3 w w' : World} {l : List Nd} {u : UInt8} {D E : List HdE} {n k : Nat} {v : Value} (h : NoS w3 l u D n k v E w) (hb : Below w.heap.size w w') : NoS w3 l u D n k v E w' :=
  ⟨h.bel.trans (hb.mono h.bel.size), h.own.later hb, h.brs, fun d hd => ⟨(h.ent d hd).1.later hb, (h.ent d hd).2⟩⟩
theorem NoS.push {w3 w w' : World} {l : List Nd} {u : UInt8} {D E : List HdE} {n k : Nat} {v v' : Value} {p : HdE} (h : NoS w3 l u D n k v E w) (h1 : OwnBr w' w3.heap.size v' (E ++ [p])) (hg : w.grownBy w' v.ownBlock) (hp : OwnIt w w3.heap.size p.v p.s) (hp2 : p.s.length ≤ n ∧ 1 ≤ p.many ∧ p.many ≤ 2) (hb : rdB l u ((D.take (k + 1)).map brS) = (E ++ [p]).map brS) : NoS w3 l u D n (k + 1) v' (E ++ [p]) w' := by
  have hkp : ∀ {x : Value} {s : List Itm}, OwnIt w w3.heap.size x s → OwnIt w' w3.heap.size x s := fun {x s} hx => World.ownsRow.kept hx hg (by
    rcases hvb : x.ownBlock with _ | g
    · exact .inl rfl
    · refine .inr fun e9 => ?_
      obtain ⟨cur, hcb⟩ := own_blkB h.own e9.symm
      exact own_not hx hcb (by decide) hvb)
  refine ⟨h.bel.grown hg h.bel.size (fun q hq => (World.ownsRow.lt h.own q hq).1), h1, hb.symm, fun d hd => ?_⟩
  rcases List.mem_append.1 hd with hd | hd
  · exact ⟨hkp (h.ent d hd).1, (h.ent d hd).2⟩
  · rw [List.mem_singleton.1 hd]; exact ⟨hkp hp, hp2⟩
theorem rdS_len {l : List Nd} {s q : List Itm} {c : UInt8} (h : rdS l s c = some q) : q.length ≤ s.length + 1 := by
  cases s with
  | nil => cases h
  | cons x r =>
    have h' : (lowS r).bind (fun q => (frS l x c).map fun f => f ++ q) = some q := h
    cases h1 : lowS r with
    | none => rw [h1] at h'; cases h'
    | some p =>
      cases h2 : frS l x c with
      | none => rw [h1, h2] at h'; cases h'
      | some f =>
        rw [h1, h2] at h'
        cases h'
        have := fr_two h2
        have := low_len h1
        rw [List.length_append, List.length_cons]; omega
/-- What stands in the loop. -/
structure NoB (w0 : World) (A : Option Addr) (l : List Nd) (c m : Nat) (AD : Option Addr) (D : List HdE) (w : World) : Prop where
  bel : Below w0.heap.size w0 w
  row : NRow w A l
  box : Blk w w0.heap.size #[.slice A l.length c] 24
  map : IsMapK w m rdL
  hds : BrRow w AD D
  ent : ∀ d ∈ D, OwnIt w w0.heap.size d.v d.s
theorem NoB.later {w0 w w' : World} {A : Option Addr} {l : List Nd} {c m : Nat} {AD : Option Addr} {D : List HdE} (h : NoB w0 A l c m AD D w) (hb : Below w.heap.size w w') : NoB w0 A l c m AD D w' :=
  ⟨h.bel.trans (hb.mono h.bel.size), h.row.later hb, h.box.later hb, h.map.later hb, h.hds.later hb, fun d hd => (h.ent d hd).later hb⟩
theorem nxOn_any (l : List Nd) (A : Option Addr) (c : Nat) (s : List Itm) (B : Option Addr) (c2 : Nat) (u : UInt8) (hR : Rgt l) (hlen : l.length ≤ 300) (htx : Txt l) (hs : ∀ y ∈ s, HdF l y) (hsl : s.length ≤ 200) (w : World) (hrow : NRow w A l) (hss : ItRow w B s) :
    Calls Try.prog 14 #[.agg #[.slice A l.length c], .slice B s.length c2, .int .u8 (u.toNat : Int)] w (BrsP (brsL (onL l s u)) (l.length + s.length + 1) w) := by
  have hb1 := (Below.refl w.heap.size w).alloc (Nat.le_refl _) (.cells #[.slice A l.length c] 24)
  have HBX := Lib.hid (Blk.new w #[.slice A l.length c] 24)
  have HB1 := Lib.hid hb1
  have HRW := Lib.hid hrow
  have HSS := Lib.hid hss
  have HH := Lib.hid (fun (w' : World) (h1 : NRow w' A l) (h2 : ItRow w' B s) => hdHeads_any l A c s B c2 hR hlen htx hs hsl w' h1 h2)
  have HHF : Hid (∀ a ∈ hdsL l s, (∀ y ∈ a.1, HdF l y) ∧ rdyS l a.1 = true ∧ a.1.length ≤ l.length + s.length ∧ 1 ≤ a.2 ∧ a.2 ≤ 2) := fun a ha => ⟨(hds_ok hR.1 hs ha).2.1, (hds_ok hR.1 hs ha).1, hds_slen hR hs a ha, hds_pos l s a ha⟩
  have HHL : Hid ((hdsL l s).length ≤ 200 * 300 + 1) := by
    have := hds_len hR hs
    have h2 : s.length * l.length ≤ 200 * 300 := Nat.mul_le_mul hsl hlen
    unfold Hid; omega
  have HON : Hid (gtB (rdB l u (hdsL l s)) [] = brsL (onL l s u)) := rd_on
  clear hb1 hrow hss
  have HIT : Hid (∀ {q : List Itm}, (∀ y ∈ q, HdF l y) → ItOk q) := fun {q} hq => hd_itok hR.1 (by omega) htx hq
  have HRR : Hid (∀ (q : List Itm) (B' : Option Addr) (c' m : Nat), (∀ y ∈ q, HdF l y) → rdyS l q = true → q.length ≤ 1000 → q.length ≤ c' → ∀ w', NRow w' A l → ItRow w' B' q → IsMapK w' m rdL → Calls Try.prog 34 #[.map (some m), .agg #[.slice A l.length c], .slice B' q.length c', .int .u8 (u.toNat : Int)] w' (NrdP (rdS l q u) w')) := fun q B' c' m h1 h2 h3 h4 w' h6 h7 h8 => nxread_any l A c q B' c' u m hR.1.1 (by omega) htx h1 h2 h3 h4 (HIT.out h1) w' h6 h7 h8
  clear hs htx
  go_enter Try.func14, Try.ntmps14
  go_upto_region 1 with (fail)
  generalize w.alloc (.cells #[.slice A l.length c] 24) = w1 at *
  go_wp2_with fail
  refine (nxTable_any w1).mono ?_; rintro e w2 ⟨m, rfl, hm2, hb2⟩
  have e0 := (HBX.out.later hb2).cell 0
  simp at e0
  have HB2 := Lib.hid (HB1.out.trans (hb2.mono HB1.out.size))
  have HX2 := Lib.hid (HBX.out.later hb2)
  have HM2 := Lib.hid hm2
  have HHC := Lib.hid (HH.out w2 (HRW.out.later HB2.out) (HSS.out.later HB2.out))
  clear hm2 hb2 HB1 HBX HH
  go_wp2_with fail
  refine HHC.out.mono ?_; rintro e w3 ⟨vD, D, rfl, hbr, hoD, hoE, hb3, -⟩
  obtain ⟨AD, cD, rfl, -, hrD⟩ := hoD.row
  have HB3 := Lib.hid (HB2.out.trans (hb3.mono HB2.out.size))
  have HNB : Hid (NoB w A l c m AD D w3) := ⟨HB3.out, HRW.out.later HB3.out, HX2.out.later hb3, HM2.out.later hb3, hrD, fun d hd => (hoE d hd).lower HB2.out.size⟩
  rw [← hbr] at HHF HHL HON
  have HDF : Hid (∀ d ∈ D, (∀ y ∈ d.s, HdF l y) ∧ rdyS l d.s = true ∧ d.s.length ≤ l.length + s.length ∧ 1 ≤ d.many ∧ d.many ≤ 2) := fun d hd => HHF.out (brS d) (List.mem_map_of_mem hd)
  have HDL : Hid (D.length ≤ 60001) := by have := HHL.out; rw [List.length_map] at this; exact this
  clear hbr hoD hoE hb3 hrD HB2 HX2 HM2 HHC e0 HHF HHL HB3 HSS HRW
  have HS0 : Hid (NoS w3 l u D (l.length + s.length + 1) 0 (.slice none 0 0) [] w3) := ⟨Below.refl _ _, ⟨rfl, .inl ⟨rfl, rfl⟩⟩, rfl, fun d hd => by cases hd⟩
  have hdl : D.length ≤ 60001 := HDL.out
  generalize hmx : l.length + s.length = mx at *
  have hmxl : mx ≤ 500 := by omega
  clear hmx
  go_wp2
  go_loopw [8, 18] (NoL w3 l u D (mx + 1)) (fun _ i _ => D.length - (intOf i).toNat)
  case atStart => exact ⟨0, [], Nat.zero_le _, rfl, HS0.out⟩
  case round =>
    obtain ⟨k, E, hk, rfl, hs⟩ := hrel
    have HS := Lib.hid hs
    clear hs HS0
    by_cases hlt : k < D.length
    · have hltz : (k : Int) < (D.length : Int) := by omega
      have HNR := Lib.hid (HNB.out.later HS.out.bel)
      obtain ⟨bd, od, hA, hbd, hcd⟩ := HNR.out.hds k hlt
      subst hA
      obtain ⟨b, hb⟩ : ∃ b, D.getD k hd0 = b := ⟨_, rfl⟩
      rw [hb] at hcd
      have hbm : b ∈ D := by rw [← hb, List.getD_eq_getElem?_getD, List.getElem?_eq_getElem hlt]; exact List.getElem_mem hlt
      have HBE : Hid (D[k]? = some b) := by rw [← hb, List.getD_eq_getElem?_getD, List.getElem?_eq_getElem hlt]; rfl
      have d0 : wr.cell? ⟨bd, od + k * 2, none⟩ = some (.slice b.A b.s.length b.cap) := hcd 0 (by decide)
      have d1 : wr.cell? ⟨bd, od + k * 2 + 1, none⟩ = some (.int .i64 (b.many : Int)) := hcd 1 (by decide)
      have hbA := (Below.refl wr.heap.size wr).alloc (Nat.le_refl _) (.cells (brC b) 41)
      have HXB := Lib.hid (Blk.new wr (brC b) 41)
      have HBA := Lib.hid hbA
      unfold brC at HXB HBA
      have HTK : Hid ((D.take (k + 1)).map brS = (D.take k).map brS ++ [brS b]) := by
        unfold Hid
        rw [List.take_add_one, HBE.out, List.map_append]; rfl
      have HF := Lib.hid (HDF.out b hbm)
      obtain ⟨hcap, hits⟩ := own_it (HNR.out.ent b hbm)
      have HCP := Lib.hid hcap
      have HIS := Lib.hid (hits.later hbA)
      have HNA := Lib.hid (HNR.out.later hbA)
      clear hb hbm hcd hbA hcap hits
      go_upto_region 6 with (fail)
      clear d0 d1
      unfold brC at HIS HNA
      generalize wr.alloc (.cells #[.slice b.A b.s.length b.cap, .int .i64 (b.many : Int)] 41) = wA at *
      obtain ⟨bx, hbx⟩ : ∃ bx, wr.heap.size = bx := ⟨_, rfl⟩
      have HBX := Lib.hid hbx
      rw [hbx] at HXB ⊢
      clear hbx
      have HCA := Lib.hid (HRR.out b.s b.A b.cap m HF.out.1 HF.out.2.1 (by have := HF.out.2.2.1; omega) HCP.out wA HNA.out.row HIS.out HNA.out.map)
      have e0 := HNA.out.box.cell 0
      have b0 := HXB.out.cell 0
      simp at e0 b0
      go_wp2_with fail
      refine HCA.out.mono ?_; rintro e w5 ⟨v5, rfl, hb5, hq5, hn5⟩
      have HB5 := Lib.hid (HBA.out.trans (hb5.mono HBA.out.size))
      have HS5 := Lib.hid (HS.out.later HB5.out)
      have HX5 := Lib.hid (HXB.out.later hb5)
      have HQ5 := Lib.hid hq5
      have HN5 := Lib.hid hn5
      have HLA : Hid (w3.heap.size ≤ wA.heap.size) := Nat.le_trans HS.out.bel.size HBA.out.size
      have HEL : Hid (E.length ≤ 60001) := by
        have h1 := congrArg List.length HS.out.brs
        rw [List.length_map] at h1
        have h2 : (rdB l u ((D.take k).map brS)).length ≤ ((D.take k).map brS).length := List.length_filterMap_le _ _
        rw [List.length_map, List.length_take] at h2
        unfold Hid; omega
      clear hb5 hq5 hn5 HCA HBA HXB HNA HIS HS HNR b0 e0
      rcases hrd : rdS l b.s u with _ | q
      · have HNX : Hid (NoS w3 l u D (mx + 1) (k + 1) u8 E w5) := ⟨HS5.out.bel, HS5.out.own, by
          rw [HTK.out, rd_app, show rdS l (brS b).1 u = none from hrd, HS5.out.brs]; simp, HS5.out.ent⟩
        simp only [Option.isSome_none]
        clear hrd HS5 HX5 HQ5 HN5
        go_wp2
        go_roundw
        case rel => exact ⟨k + 1, E, hlt, by go_num, HNX.out⟩
        case measure => simp [intOf]; omega
      · have ho5 := HQ5.out q hrd
        obtain ⟨A5, c5, hv5, hc5, hr5⟩ := ho5.row
        subst hv5
        have HO5 : Hid (OwnIt w5 w3.heap.size (.slice A5 q.length c5) q) := ho5.lower HLA.out
        have HQL : Hid (q.length ≤ mx + 1) := by
          have h1 := rdS_len hrd
          have h2 := HF.out.2.2.1
          unfold Hid; omega
        have HKN : Hid (rdB l u ((D.take (k + 1)).map brS) = (E ++ [(⟨q, A5, c5, b.many⟩ : HdE)]).map brS) := by
          unfold Hid
          rw [HTK.out, rd_app, show rdS l (brS b).1 u = some q from hrd, List.map_append, HS5.out.brs]; rfl
        have HMB : Hid (1 ≤ b.many ∧ b.many ≤ 2) := HF.out.2.2.2
        have b0 := HX5.out.cell 0
        have b1 := HX5.out.cell 1
        simp at b0 b1
        simp only [Option.isSome_some]
        clear ho5 hc5 hr5 hrd HQ5 HN5 HF
        have hb6 := (Below.refl w5.heap.size w5).alloc (Nat.le_refl _) (.cells #[.slice A5 q.length c5, .int .i64 (b.many : Int)] 41)
        have HS6 := Lib.hid (HS5.out.later hb6)
        have HO6 := Lib.hid (HO5.out.later hb6)
        have HX6 : Hid (Blk (w5.alloc (.cells #[.slice A5 q.length c5, .int .i64 (b.many : Int)] 41)) w5.heap.size (brC ⟨q, A5, c5, b.many⟩) 41) := Blk.new w5 #[.slice A5 q.length c5, .int .i64 (b.many : Int)] 41
        clear hb6
        go_wp2_with (at_builtin; refine wpList_append_br rfl _ _ rfl w3.heap.size u8 E rfl HS6.out.own w5.heap.size ⟨q, A5, c5, b.many⟩ rfl HX6.out (Nat.lt_of_le_of_lt HEL.out (by decide)) HS6.out.bel.size ?_; intro v7 w7 h7 hg7; have HNX : Hid (NoS w3 l u D (mx + 1) (k + 1) v7 (E ++ [⟨q, A5, c5, b.many⟩]) w7) := NoS.push HS6.out h7 hg7 HO6.out ⟨HQL.out, HMB.out⟩ HKN.out; clear h7 hg7)
        go_roundw
        case rel => exact ⟨k + 1, _, hlt, by go_num, HNX.out⟩
        case measure => simp [intOf]; omega
    · obtain rfl : k = D.length := by omega
      have hltz : ¬ ((D.length : Nat) : Int) < (D.length : Int) := by omega
      have hel : E.length ≤ 60001 := by
        have h1 := congrArg List.length HS.out.brs
        rw [List.length_map] at h1
        have h2 : (rdB l u ((D.take D.length).map brS)).length ≤ ((D.take D.length).map brS).length := List.length_filterMap_le _ _
        rw [List.length_map, List.length_take] at h2
        omega
      have HTG := Lib.hid (nxTg_any E w3.heap.size w3.heap.size u8 wr HS.out.own HS.out.bel.size (fun e he => (HS.out.ent e he).1) (fun e he => by have := (HS.out.ent e he).2.1; omega) (by omega) (fun e he => (HS.out.ent e he).2.2))
      have HBB : Hid (Below w.heap.size w wr) := HNB.out.bel.trans (HS.out.bel.mono HNB.out.bel.size)
      have HVB : Hid (∀ g, u8.ownBlock = some g → w.heap.size ≤ g) := fun g hg => Nat.le_trans HNB.out.bel.size (World.ownsRow.lt HS.out.own g hg).1
      have HBS : Hid (E.map brS = rdB l u (D.map brS)) := by have := HS.out.brs; rwa [List.take_length] at this
      have HEN : Hid (∀ d ∈ E, d.s.length ≤ mx + 1) := fun d hd => (HS.out.ent d hd).2.1
      clear HS hlt hel
      go_wp2_with fail
      refine HTG.out.mono ?_; rintro e w9 ⟨v9, D9, rfl, h1, h2, h3, h4⟩
      have HP : Hid (BrsP (brsL (onL l s u)) (mx + 1) w (.returned v9) w9) := by
        refine ⟨v9, D9, rfl, ?_, h2.lower HBB.out.size, fun d hd => ?_, HBB.out.grown h4 HBB.out.size HVB.out⟩
        · rw [h1, HBS.out]; exact HON.out
        · obtain ⟨⟨e, he, q1, q2, q3⟩, h5⟩ := h3 d hd
          exact ⟨h5.lower HNB.out.bel.size, by rw [q2]; exact HEN.out e he⟩
      clear h1 h2 h3 h4 HTG
      go_wp2
      go_ret
      exact HP.out
end Go.Proofs.Ytidoofdofdhjpaa
