/- Counting: a node read from all places of a list. Walked. -/
import Derived.Test.YtpbbokdmoaadfaaM25
import Derived.Test.YtpbbokdmoaadfaaM23
import Derived.Test.YtpbbokdmoaadfaaM24
import Derived.Test.YtpbbokdmoaadfaaM15
import Derived.BigQuiet
namespace Go.Proofs.Ytpbbokdmoaadfaa
set_option maxHeartbeats 64000000
set_option maxRecDepth 1000000
set_option linter.all false
open Go Go.RowKit
def RkR (m : Nat) (l : List Nd) (V : Wd) (w w' : World) : Prop := Rk m l V w.heap.size [] w w'
theorem RkR.of (m : Nat) (l : List Nd) (V : Wd) (w w' : World) (hb : Below w.heap.size w w') : RkR m l V w w' := .of_below hb
structure AlS (rb : Nat) (A : Option Addr) (l : List Nd) (c : Nat) (u : Value) (W V : Wd) (m : Nat) (vl : Value) (L : List (Nat × Nat)) (w0 : World) (w : World) : Prop where
 rk : Rk m l V w0.heap.size [] w0 w
 rd : Rdr rb A l c u W V m w
 row : IsR w vl L
theorem AlS.grow {rb : Nat} {A : Option Addr} {l : List Nd} {c : Nat} {u : Value} {W V : Wd} {m : Nat} {vl : Value} {L : List (Nat × Nat)} {w0 w w' : World} (h : AlS rb A l c u W V m vl L w0 w) (k : RkR m l V w w') : AlS rb A l c u W V m vl L w0 w' :=
 ⟨h.rk.call h.rk.size k, h.rd.rk k, (k.kc ⟨_, h.rd.kept⟩).isR h.row⟩
def PlV (m : Nat) (l : List Nd) (V : Wd) (w0 : World) (L : List (Nat × Nat)) (v : Value) (w : World) : Prop := KeptX w m l V (fun _ => False) /\ IsR w v L /\ ∀ X, (∀ g, X g -> g < w0.heap.size) -> KeptX w0 m l V X -> Out v X
theorem PlV.grow (m : Nat) (l : List Nd) (V : Wd) (w0 : World) (L : List (Nat × Nat)) : ∀ v w w', PlV m l V w0 L v w -> RkR m l V w w' -> PlV m l V w0 L v w' := fun v w w' ⟨h1, h2, h3⟩ k =>
 ⟨(k.map _ (fun g hg => hg.elim) h1).less fun g hg => .inl hg, (k.kc ⟨_, h1⟩).isR h2, h3⟩
theorem EndP.plv {m : Nat} {l : List Nd} {V : Wd} {w0 wx w' : World} {L : List (Nat × Nat)} {v : Value} (h : Rk m l V w0.heap.size [] w0 wx) (hx : KeptX wx m l V (fun _ => False)) (hi : IsR w' v L) (hk : Rk m l V wx.heap.size [] wx w') (ho : ∀ X, (∀ g, X g -> g < wx.heap.size) -> KeptX wx m l V X -> Out v X) : PlV m l V w0 L v w' :=
 ⟨(hk.map _ (fun g hg => hg.elim) hx).less fun g hg => .inl hg, hi, fun X hX hK => ho X (fun g hg => Nat.lt_of_lt_of_le (hX g hg) h.size) ((h.map X hX hK).less fun g hg => .inl hg)⟩
theorem eit_plv {m : Nat} {l : List Nd} {V : Wd} {w0 wx w' : World} {L : List (Nat × Nat)} {v a b : Value} (h : Rk m l V w0.heap.size [] w0 wx) (hx : KeptX wx m l V (fun _ => False)) (hi : IsR w' v L) (hb : Below wx.heap.size wx w')
 (ha : ∀ X, (∀ g, X g -> g < w0.heap.size) -> KeptX w0 m l V X -> Out a X) (hbb : ∀ X, (∀ g, X g -> g < w0.heap.size) -> KeptX w0 m l V X -> Out b X) (ho : v = a \/ v = b \/ Nw wx.heap.size v) : PlV m l V w0 L v w' :=
 ⟨(((RkR.of m l V _ _ hb).map _ (fun g hg => hg.elim) hx).less fun g hg => .inl hg), hi, fun X hX hK => by
   rcases ho with e | e | e
   ·rw [e]; exact ha X hX hK
   ·rw [e]; exact hbb X hX hK
   ·exact (e.mono h.size).out hX⟩
theorem call_any {l : List Nd} {c m ba oa : Nat} {V : Wd} {i : Nat} (hF : Form l) (hin : i < l.length) (hl : l.length <= 1000000) (hT : ∀ n ∈ l, n.text.length <= 1073741824) (hn : V.length <= 900)
 (hR : ∀ j, j < i -> ReadC (some ⟨ba, oa, none⟩) l c m V j) (hA : ∀ j, j < i -> AllC (some ⟨ba, oa, none⟩) l c m V j) (hE : ∀ j, j < i -> EndsC (some ⟨ba, oa, none⟩) l c m V j) : AllC (some ⟨ba, oa, none⟩) l c m V i := by
 intro rb u W F vl w hr hW h2 hv
 have hWn : W.length <= 900 := by obtain ⟨t, rfl⟩ := hW; simp at hn; omega
 have hkr := kind_range hF hin
 have HA0 := Lib.hid (fun (h : 4 <= (atN l i).kind) => cnt_kidA hF hin h)
 have HB0 := Lib.hid (fun (h : (atN l i).kind = 4 \/ (atN l i).kind = 5) => cnt_kidB hF hin h)
 have haz : 4 <= (atN l i).kind -> (((atN l i).a.toNat : Nat) : Int) = (atN l i).a := fun h => by
  have hcs := (hF.2.1 i hin).cs rfl
  cases hcs with
  | leaf h1 hf => unfold leafK at h1; omega
  | one h1 hi0 ha hb h7 hr hcl hf => omega
  | two h1 hi0 hb ha hf0 hl hcl hf => omega
 have hbz : ((atN l i).kind = 4 \/ (atN l i).kind = 5) -> (((atN l i).b.toNat : Nat) : Int) = (atN l i).b := fun h => by
  have hcs := (hF.2.1 i hin).cs rfl
  cases hcs with
  | leaf h1 hf => unfold leafK at h1; omega
  | one h1 hi0 ha hb h7 hr hcl hf => omega
  | two h1 hi0 hb ha hf0 hl hcl hf => omega
 obtain ⟨b8, o8, hA8, g⟩ := hr.rd.row.at10 hin
 cases hA8
 obtain ⟨Au, cu, rfl, hcu⟩ := hr.rd.wd.len
 have HIV := Lib.hid hv
 have HRD := Lib.hid hr
 have r0 := hr.rd.blk.cell 0
 simp at r0
 have hilz : (i : Int) < (l.length : Int) := by omega
 by_cases hne : plF (W.length + 1) F = []
 ·have HPF : Hid (EndP m l V w (plF (W.length + 1) (thV l i W F)) (.returned (.slice none 0 0)) w) := by
   have e : plF (W.length + 1) (thV l i W F) = [] := plF_nil fun b hb => thV_none fun j hj => plF_empty hne j hj
   exact ⟨_, rfl, by rw [e]; exact IsR.none w, Rk.refl _ _, fun X hX _ => (Nw.nil w.heap.size 0).out hX⟩
  obtain ⟨Al, cl, rfl, hlc, hrow⟩ := hv
  have hz : ((((plF (W.length + 1) F).length : Nat) : Int) == 0) = true := by rw [hne]; rfl
  generalize (plF (W.length + 1) F).length = ln at *
  clear hne hrow hlc haz hbz g hr
  go_enter Try.func57, Try.ntmps57
  go_wp2
  go_ret
  exact HPF.out
 have hz : ((((plF (W.length + 1) F).length : Nat) : Int) == 0) = false := by
  rw [beq_eq_false_iff_ne]
  have : (plF (W.length + 1) F).length ≠ 0 := fun e => hne (List.length_eq_zero_iff.1 e)
  omega
 have HNE := Lib.hid hne
 have H2 := Lib.hid h2
 have HFm := Lib.hid hF
 obtain ⟨Al, cl, hvl, hlc, -⟩ := hv
 subst hvl
 have HS0 : Hid (AlS rb (some ⟨ba, oa, none⟩) l c (.slice Au W.length cu) W V m (.slice Al (plF (W.length + 1) F).length cl) (plF (W.length + 1) F) w w) := ⟨Rk.refl _ _, hr, HIV.out⟩
 have HKK : Hid (∃ k, (atN l i).kind = k) := ⟨_, rfl⟩
 have HMK := Lib.hid (fun (hk : (atN l i).kind = 6) (hEa : EndsC (some ⟨ba, oa, none⟩) l c m V (atN l i).a.toNat) => cstar_any hF hin hk hEa rb (.slice Au W.length cu) W F _ w hr hW hn h2 HIV.out hne)
 have HMR := Lib.hid (fun (hk : (atN l i).kind = 7) (hEa : EndsC (some ⟨ba, oa, none⟩) l c m V (atN l i).a.toNat) => crep_any hF hin hk hEa rb (.slice Au W.length cu) W F _ w hr hW hn h2 HIV.out hne)
 have HMF := Lib.hid (fun (head : Nat) (hk : (atN l i).kind = 8 /\ head = 1 \/ (atN l i).kind = 9 /\ head = 2) (hEa : EndsC (some ⟨ba, oa, none⟩) l c m V (atN l i).a.toNat) => cframe_any hF hin hk hEa rb (.slice Au W.length cu) W F _ w hr hW hn h2 HIV.out)
 have HML := Lib.hid (cleaf_any rb (some ⟨ba, oa, none⟩) l c (.slice Au W.length cu) W m ba (oa + i * 10) (atN l i) _ (plF (W.length + 1) F) w hr.rd g HIV.out (fun p hp => by have := (mem_plF.1 hp).1; omega) (by have := plF_length (n := W.length + 1) (F := F); omega) (hT _ (by unfold atN; exact getD_mem0 hin)) (by omega))
 have HLE := Lib.hid (fun (hk : (atN l i).kind <= 3) => leaf_end (F := F) (W := W) hF hin hk h2)
 have HT4 := Lib.hid (fun (hk : (atN l i).kind = 4) (b : Nat) (hb : b < W.length + 1) => th_k4 (F := F) hF hin hb hk)
 have HT5 := Lib.hid (fun (hk : (atN l i).kind = 5) (b : Nat) (hb : b < W.length + 1) => th_k5 (F := F) hF hin hb hk)
 have HRR := Lib.hid hR
 have HAA := Lib.hid hA
 have HEE := Lib.hid hE
 clear hr hne hlc hF hT hR hA hE h2 HKK
 generalize hnd : atN l i = nd at *
 have HND := Lib.hid hnd
 clear hnd
 obtain ⟨kk, na, nb, nlo, nhi, ncls, ntext⟩ := nd
 simp only at haz hbz hkr HA0 HB0 HMK HMR HMF HLE HT4 HT5
 unfold At10 at g
 simp only at g
 obtain ⟨g0, g1, g2, g3, g4, g5, g6, g7, g8, g9⟩ := g
 by_cases h6 : kk = 6
 ·obtain ⟨a, ha⟩ : ∃ a : Nat, na.toNat = a := ⟨_, rfl⟩
  rw [ha] at haz
  have haz2 := haz (by omega)
  have HC := Lib.hid (HMK.out h6 (by rw [ha]; exact HEE.out a (by have := HA0.out (by omega); omega)))
  rw [ha] at HC
  subst h6
  clear haz
  subst haz2
  clear ha HA0 HB0 HMK HMR HMF HML HLE HT4 HT5 hbz
  generalize (plF (W.length + 1) F).length = ln at *
  go_enter Try.func57, Try.ntmps57
  clear HS0
  go_wp2_with fail
  refine HC.out.mono ?_; rintro e w5 ⟨v5, rfl, hi5, hrk5, hout5⟩
  have HPF : Hid (EndP m l V w (plF (W.length + 1) (thV l i W F)) (.returned v5) w5) := ⟨v5, rfl, hi5, hrk5, hout5⟩
  obtain ⟨a9, c9, hv9, -⟩ := hi5
  subst hv9
  clear hrk5 hout5 HC
  generalize ((plF (W.length + 1) (thV l i W F))).length = zz at *
  go_wp2
  go_ret
  exact HPF.out
 by_cases h7 : kk = 7
 ·have HC := Lib.hid (HMR.out h7 (HEE.out _ (by have := HA0.out (by omega); omega)))
  subst h7
  clear HA0 HB0 HMK HMR HMF HML HLE HT4 HT5 hbz haz
  generalize (plF (W.length + 1) F).length = ln at *
  go_enter Try.func57, Try.ntmps57
  clear HS0
  go_wp2_with fail
  refine HC.out.mono ?_; rintro e w5 ⟨v5, rfl, hi5, hrk5, hout5⟩
  have HPF : Hid (EndP m l V w (plF (W.length + 1) (thV l i W F)) (.returned v5) w5) := ⟨v5, rfl, hi5, hrk5, hout5⟩
  obtain ⟨a9, c9, hv9, -⟩ := hi5
  subst hv9
  clear hrk5 hout5 HC
  generalize ((plF (W.length + 1) (thV l i W F))).length = zz at *
  go_wp2
  go_ret
  exact HPF.out
 by_cases h8 : kk = 8
 ·have HC := Lib.hid (HMF.out 1 (.inl ⟨h8, rfl⟩) (HEE.out _ (by have := HA0.out (by omega); omega)))
  subst h8
  clear HA0 HB0 HMK HMR HMF HML HLE HT4 HT5 hbz haz
  generalize (plF (W.length + 1) F).length = ln at *
  go_enter Try.func57, Try.ntmps57
  clear HS0
  go_wp2_with fail
  refine HC.out.mono ?_; rintro e w5 ⟨v5, rfl, hi5, hrk5, hout5⟩
  have HPF : Hid (EndP m l V w (plF (W.length + 1) (thV l i W F)) (.returned v5) w5) := ⟨v5, rfl, hi5, hrk5, hout5⟩
  obtain ⟨a9, c9, hv9, -⟩ := hi5
  subst hv9
  clear hrk5 hout5 HC
  generalize ((plF (W.length + 1) (thV l i W F))).length = zz at *
  go_wp2
  go_ret
  exact HPF.out
 by_cases h9 : kk = 9
 ·have HC := Lib.hid (HMF.out 2 (.inr ⟨h9, rfl⟩) (HEE.out _ (by have := HA0.out (by omega); omega)))
  subst h9
  clear HA0 HB0 HMK HMR HMF HML HLE HT4 HT5 hbz haz
  generalize (plF (W.length + 1) F).length = ln at *
  go_enter Try.func57, Try.ntmps57
  clear HS0
  go_wp2_with fail
  refine HC.out.mono ?_; rintro e w5 ⟨v5, rfl, hi5, hrk5, hout5⟩
  have HPF : Hid (EndP m l V w (plF (W.length + 1) (thV l i W F)) (.returned v5) w5) := ⟨v5, rfl, hi5, hrk5, hout5⟩
  obtain ⟨a9, c9, hv9, -⟩ := hi5
  subst hv9
  clear hrk5 hout5 HC
  generalize ((plF (W.length + 1) (thV l i W F))).length = zz at *
  go_wp2
  go_ret
  exact HPF.out
 by_cases h4 : kk = 4
 ·obtain ⟨a, ha⟩ : ∃ a : Nat, na.toNat = a := ⟨_, rfl⟩
  obtain ⟨b, hb⟩ : ∃ b : Nat, nb.toNat = b := ⟨_, rfl⟩
  rw [ha] at haz
  rw [hb] at hbz
  have haz2 := haz (by omega)
  have hbz2 := hbz (by omega)
  have HRA := Lib.hid (HRR.out a (by have := HA0.out (by omega); omega))
  have HRB := Lib.hid (HRR.out b (by have := HB0.out (by omega); omega))
  have HEQ : Hid (plF (W.length + 1) (thV l b W (thV l a W F)) = plF (W.length + 1) (thV l i W F)) := plF_congr fun x hx => by
   have := HT4.out h4 x hx
   rw [ha, hb] at this
   exact this
  subst h4
  clear haz hbz
  subst haz2
  subst hbz2
  clear ha hb HA0 HB0 HMK HMR HMF HML HLE HT4 HT5 h6 h7 h8 h9
  have hR : ∀ w w', Below w.heap.size w w' -> RkR m l V w w' := fun w w' => RkR.of m l V w w'
  have HR := Lib.hid hR
  clear hR
  go_enter Try.func57, Try.ntmps57
  go_upto_region 6 with (fail)
  clear g0 g1 g2 g3 g4 g5 g6 g7 g8 g9 r0
  refine G.wp_region_stable (R := (RkR m l V)) HR.out (S := (AlS rb (some ⟨ba, oa, none⟩) l c (.slice Au W.length cu) W V m (.slice Al (plF (W.length + 1) F).length cl) (plF (W.length + 1) F) w)) (hSt := fun _ _ h hr => h.grow hr) (plan := [[(0, none)], [(7, none)], [(24, some 1)], [(25, some 2)], [(26, some 3)], [(0, none)], [(7, none)], [(29, some 6)], [(30, some 7)], [(31, some 8)], [(2, none)], [(28, some 5), (32, some 9), (33, some 10)], [(23, some 0), (27, some 4), (34, some 11)], [(35, some 12)]]) (by kernel_rfl) (by kernel_rfl) (by kernel_rfl) ?hS ?_
  rotate_left
  iterate 11 first
   | (refine G.chain_skip (by rfl) (by rfl) ?_)
   | (apply G.chain_want (by rfl)
      ·intro act wx hS hr
       simp at hr
       have g := hS.rd.rd.row.at10 hin
       obtain ⟨b8, o8, hA8, hg8⟩ := g
       have hA8 := Option.some.inj hA8
       cases hA8
       rw [HND.out] at hg8
       unfold At10 at hg8
       simp only at hg8
       obtain ⟨g0, g1, g2, g3, g4, g5, g6, g7, g8, g9⟩ := hg8
       go_simp
       (try go_ints)
       first
        | exact G.Done.same HR.out
     )
  (refine G.chain_rel (PlV m l V w (plF (W.length + 1) (thV l a W F))) (PlV.grow m l V w _) (by rfl) ?_ ?_
   ·intro act wx hS hr
    simp at hr
    have g := hS.rd.rd.row.at10 hin
    obtain ⟨b8, o8, hA8, hg8⟩ := g
    have hA8 := Option.some.inj hA8
    cases hA8
    rw [HND.out] at hg8
    unfold At10 at hg8
    simp only at hg8
    obtain ⟨g0, g1, g2, g3, g4, g5, g6, g7, g8, g9⟩ := hg8
    all_goals go_simp
    (refine (HRA.out rb _ W F _ wx hS.rd hW H2.out hS.row).mono ?_); rintro e w5 ⟨v5, rfl, hi5, hk5, ho5⟩; exact G.Done.rel hk5 (EndP.plv hS.rk hS.rd.kept hi5 hk5 ho5)
  )
  (refine G.chain_rel (PlV m l V w (plF (W.length + 1) (thV l b W (thV l a W F)))) (PlV.grow m l V w _) (by rfl) ?_ ?_
   ·intro act wx hS hr
    simp at hr
    have g := hS.rd.rd.row.at10 hin
    obtain ⟨b8, o8, hA8, hg8⟩ := g
    have hA8 := Option.some.inj hA8
    cases hA8
    rw [HND.out] at hg8
    unfold At10 at hg8
    simp only at hg8
    obtain ⟨g0, g1, g2, g3, g4, g5, g6, g7, g8, g9⟩ := hg8
    obtain ⟨hr1, hr2, v, hr3, hv⟩ := hr
    all_goals go_simp
    (try simp only [hr3, Option.getD_some]); (refine (HRB.out rb _ W (thV l a W F) v wx hS.rd hW (fun b => thV_le) hv.2.1).mono ?_); rintro e w5 ⟨v5, rfl, hi5, hk5, ho5⟩; exact G.Done.rel hk5 (EndP.plv hS.rk hS.rd.kept hi5 hk5 ho5)
  )
  (refine G.chain_rel (PlV m l V w (plF (W.length + 1) (thV l b W (thV l a W F)))) (PlV.grow m l V w _) (by rfl) ?_ ?_
   ·intro act wx hS hr
    simp at hr
    have g := hS.rd.rd.row.at10 hin
    obtain ⟨b8, o8, hA8, hg8⟩ := g
    have hA8 := Option.some.inj hA8
    cases hA8
    rw [HND.out] at hg8
    unfold At10 at hg8
    simp only at hg8
    obtain ⟨g0, g1, g2, g3, g4, g5, g6, g7, g8, g9⟩ := hg8
    obtain ⟨v, hr3, hv⟩ := hr
    all_goals go_simp
    (try simp only [hr3, Option.getD_some]); exact G.Done.rel (HR.out _ _ (Below.refl _ _)) hv
  )
  show ∀ w', _ -> _
  intro w9 hw9
  simp [Act.put]
  case hS => exact HS0.out
  clear HS0
  intro v1 _ v2 _ v3 hv3
  have HPF : Hid (EndP m l V w (plF (W.length + 1) (thV l i W F)) (.returned v3) w9) := ⟨v3, rfl, by rw [<- HEQ.out]; exact hv3.2.1, hw9.rk, hv3.2.2⟩
  clear hv3 hw9
  generalize (plF (W.length + 1) F).length = ln at *
  go_wp2
  go_ret
  exact HPF.out
 by_cases h5 : kk = 5
 ·obtain ⟨a, ha⟩ : ∃ a : Nat, na.toNat = a := ⟨_, rfl⟩
  obtain ⟨b, hb⟩ : ∃ b : Nat, nb.toNat = b := ⟨_, rfl⟩
  rw [ha] at haz
  rw [hb] at hbz
  have haz2 := haz (by omega)
  have hbz2 := hbz (by omega)
  have HRA := Lib.hid (HAA.out a (by have := HA0.out (by omega); omega))
  have HRB := Lib.hid (HAA.out b (by have := HB0.out (by omega); omega))
  have HEQ : Hid (plF (W.length + 1) (fun x => min 2 (thV l a W F x + thV l b W F x)) = plF (W.length + 1) (thV l i W F)) := plF_congr fun x hx => by
   have := HT5.out h5 x hx
   rw [ha, hb] at this
   exact this
  subst h5
  clear haz hbz
  subst haz2
  subst hbz2
  clear ha hb HA0 HB0 HMK HMR HMF HML HLE HT4 HT5 h4 h6 h7 h8 h9
  have hR : ∀ w w', Below w.heap.size w w' -> RkR m l V w w' := fun w w' => RkR.of m l V w w'
  have HR := Lib.hid hR
  clear hR
  go_enter Try.func57, Try.ntmps57
  go_upto_region 8 with (fail)
  clear g0 g1 g2 g3 g4 g5 g6 g7 g8 g9 r0
  refine G.wp_region_stable (R := (RkR m l V)) HR.out (S := (AlS rb (some ⟨ba, oa, none⟩) l c (.slice Au W.length cu) W V m (.slice Al (plF (W.length + 1) F).length cl) (plF (W.length + 1) F) w)) (hSt := fun _ _ h hr => h.grow hr) (plan := [[(0, none)], [(7, none)], [(39, some 1)], [(40, some 2)], [(41, some 3)], [(2, none)], [(38, some 0), (42, some 4), (43, some 5)], [(0, none)], [(7, none)], [(46, some 8)], [(47, some 9)], [(48, some 10)], [(2, none)], [(45, some 7), (49, some 11), (50, some 12)], [(44, some 6), (51, some 13)], [(52, some 14)]]) (by kernel_rfl) (by kernel_rfl) (by kernel_rfl) ?hS ?_
  rotate_left
  iterate 6 first
   | (refine G.chain_skip (by rfl) (by rfl) ?_)
   | (apply G.chain_want (by rfl)
      ·intro act wx hS hr
       simp at hr
       have g := hS.rd.rd.row.at10 hin
       obtain ⟨b8, o8, hA8, hg8⟩ := g
       have hA8 := Option.some.inj hA8
       cases hA8
       rw [HND.out] at hg8
       unfold At10 at hg8
       simp only at hg8
       obtain ⟨g0, g1, g2, g3, g4, g5, g6, g7, g8, g9⟩ := hg8
       go_simp
       (try go_ints)
       first
        | exact G.Done.same HR.out
     )
  (refine G.chain_rel (PlV m l V w (plF (W.length + 1) (thV l a W F))) (PlV.grow m l V w _) (by rfl) ?_ ?_
   ·intro act wx hS hr
    simp at hr
    have g := hS.rd.rd.row.at10 hin
    obtain ⟨b8, o8, hA8, hg8⟩ := g
    have hA8 := Option.some.inj hA8
    cases hA8
    rw [HND.out] at hg8
    unfold At10 at hg8
    simp only at hg8
    obtain ⟨g0, g1, g2, g3, g4, g5, g6, g7, g8, g9⟩ := hg8
    all_goals go_simp
    (refine (HRA.out rb _ W F _ wx hS.rd hW H2.out hS.row).mono ?_); rintro e w5 ⟨v5, rfl, hi5, hk5, ho5⟩; exact G.Done.rel hk5 (EndP.plv hS.rk hS.rd.kept hi5 hk5 ho5)
  )
  iterate 6 first
   | (refine G.chain_skip (by rfl) (by rfl) ?_)
   | (apply G.chain_want (by rfl)
      ·intro act wx hS hr
       simp at hr
       have g := hS.rd.rd.row.at10 hin
       obtain ⟨b8, o8, hA8, hg8⟩ := g
       have hA8 := Option.some.inj hA8
       cases hA8
       rw [HND.out] at hg8
       unfold At10 at hg8
       simp only at hg8
       obtain ⟨g0, g1, g2, g3, g4, g5, g6, g7, g8, g9⟩ := hg8
       go_simp
       (try go_ints)
       first
        | exact G.Done.same HR.out
     )
  (refine G.chain_rel (PlV m l V w (plF (W.length + 1) (thV l b W F))) (PlV.grow m l V w _) (by rfl) ?_ ?_
   ·intro act wx hS hr
    simp at hr
    have g := hS.rd.rd.row.at10 hin
    obtain ⟨b8, o8, hA8, hg8⟩ := g
    have hA8 := Option.some.inj hA8
    cases hA8
    rw [HND.out] at hg8
    unfold At10 at hg8
    simp only at hg8
    obtain ⟨g0, g1, g2, g3, g4, g5, g6, g7, g8, g9⟩ := hg8
    all_goals go_simp
    (refine (HRB.out rb _ W F _ wx hS.rd hW H2.out hS.row).mono ?_); rintro e w5 ⟨v5, rfl, hi5, hk5, ho5⟩; exact G.Done.rel hk5 (EndP.plv hS.rk hS.rd.kept hi5 hk5 ho5)
  )
  (refine G.chain_rel (PlV m l V w (plF (W.length + 1) fun x => min 2 (thV l a W F x + thV l b W F x))) (PlV.grow m l V w _) (by rfl) ?_ ?_
   ·intro act wx hS hr
    simp at hr
    have g := hS.rd.rd.row.at10 hin
    obtain ⟨b8, o8, hA8, hg8⟩ := g
    have hA8 := Option.some.inj hA8
    cases hA8
    rw [HND.out] at hg8
    unfold At10 at hg8
    simp only at hg8
    obtain ⟨g0, g1, g2, g3, g4, g5, g6, g7, g8, g9⟩ := hg8
    obtain ⟨⟨v, hr2, hv⟩, v', hr3, hv'⟩ := hr
    all_goals go_simp
    (try simp only [hr2, hr3, Option.getD_some]); refine (ceither_any v v' (W.length + 1) (thV l a W F) (thV l b W F) wx hv.2.1 hv'.2.1 (by omega) (fun b => thV_le) (fun b => thV_le)).mono ?_; rintro e w5 ⟨v5, rfl, hi5, hb5, hor5⟩; exact G.Done.rel (HR.out _ _ hb5) (eit_plv hS.rk hS.rd.kept hi5 hb5 hv.2.2 hv'.2.2 hor5)
  )
  (refine G.chain_rel (PlV m l V w (plF (W.length + 1) fun x => min 2 (thV l a W F x + thV l b W F x))) (PlV.grow m l V w _) (by rfl) ?_ ?_
   ·intro act wx hS hr
    simp at hr
    have g := hS.rd.rd.row.at10 hin
    obtain ⟨b8, o8, hA8, hg8⟩ := g
    have hA8 := Option.some.inj hA8
    cases hA8
    rw [HND.out] at hg8
    unfold At10 at hg8
    simp only at hg8
    obtain ⟨g0, g1, g2, g3, g4, g5, g6, g7, g8, g9⟩ := hg8
    obtain ⟨v, hr3, hv⟩ := hr
    all_goals go_simp
    (try simp only [hr3, Option.getD_some]); exact G.Done.rel (HR.out _ _ (Below.refl _ _)) hv
  )
  show ∀ w', _ -> _
  intro w9 hw9
  simp [Act.put]
  case hS => exact HS0.out
  clear HS0
  intro v1 _ v2 _ v3 _ v4 hv4
  have HPF : Hid (EndP m l V w (plF (W.length + 1) (thV l i W F)) (.returned v4) w9) := ⟨v4, rfl, by rw [<- HEQ.out]; exact hv4.2.1, hw9.rk, hv4.2.2⟩
  clear hv4 hw9
  generalize (plF (W.length + 1) F).length = ln at *
  go_wp2
  go_ret
  exact HPF.out
 ·have HLL := Lib.hid (HLE.out (by omega))
  rw [HLL.out] at HML
  have b4 : (kk == 4) = false := beq_eq_false_iff_ne.2 h4
  have b5 : (kk == 5) = false := beq_eq_false_iff_ne.2 h5
  have b6 : (kk == 6) = false := beq_eq_false_iff_ne.2 h6
  have b7 : (kk == 7) = false := beq_eq_false_iff_ne.2 h7
  have b8b : (kk == 8) = false := beq_eq_false_iff_ne.2 h8
  have b9 : (kk == 9) = false := beq_eq_false_iff_ne.2 h9
  clear HA0 HB0 HMK HMR HMF HLE HT4 HT5 hbz haz h4 h5 h6 h7 h8 h9 hkr HLL HS0
  generalize (plF (W.length + 1) F).length = ln at *
  generalize (plF (W.length + 1) (thV l i W F)) = MM at *
  go_enter Try.func57, Try.ntmps57
  go_wp2_with fail
  refine HML.out.mono ?_; rintro e w5 ⟨v5, rfl, ho5, hb5⟩
  have HPF : Hid (EndP m l V w MM (.returned v5) w5) := ⟨v5, rfl, ho5.isR, .of_below hb5, fun X hX _ => ho5.nw.out hX⟩
  obtain ⟨a9, c9, hv9, -⟩ := ho5.isR
  subst hv9
  clear ho5 hb5 HML
  generalize MM.length = zz at *
  go_wp2
  go_ret
  exact HPF.out
theorem one_plF {n : Nat} {F : Nat -> Nat} (h : (plF n F).length = 1) : ∃ p x, plF n F = [(p, x)] /\ p < n /\ F p = x /\ x ≠ 0 /\ ∀ b, b < n -> F b = if b = p then x else 0 := by
 obtain ⟨⟨p, x⟩, hp⟩ := List.length_eq_one_iff.1 h
 have hm := mem_plF.1 (show (p, x) ∈ plF n F by rw [hp]; simp)
 refine ⟨p, x, hp, hm.1, hm.2.1, hm.2.2, fun b hb => ?_⟩
 by_cases e : b = p
 ·rw [if_pos e, e]; exact hm.2.1
 ·rw [if_neg e]
  rcases Nat.eq_zero_or_pos (F b) with h0 | h0
  ·exact h0
  ·have : (b, F b) ∈ plF n F := mem_plF.2 ⟨hb, rfl, by show F b ≠ 0; omega⟩
   rw [hp, List.mem_singleton] at this
   exact absurd (congrArg Prod.fst this) e
theorem old_plv {m : Nat} {l : List Nd} {V : Wd} {w0 wx w' : World} {L : List (Nat × Nat)} {v a : Value} (h : Rk m l V w0.heap.size [] w0 wx) (hx : KeptX wx m l V (fun _ => False)) (hi : IsR w' v L) (hb : Below wx.heap.size wx w')
 (ha : ∀ X, (∀ g, X g -> g < w0.heap.size) -> KeptX w0 m l V X -> Out a X) (ho : v = a \/ Nw wx.heap.size v) : PlV m l V w0 L v w' :=
 eit_plv h hx hi hb ha ha (by rcases ho with e | e; exact .inl e; exact .inr (.inr e))
theorem cread_any {A : Option Addr} {l : List Nd} {c m : Nat} {V : Wd} {i : Nat} (hn : V.length <= 900) (hE : EndsC A l c m V i) (hA : AllC A l c m V i) : ReadC A l c m V i := by
 intro rb u W F vl w hr hW h2 hv
 have hWn : W.length <= 900 := by obtain ⟨t, rfl⟩ := hW; simp at hn; omega
 obtain ⟨Au, cu, rfl, hcu⟩ := hr.rd.wd.len
 have HIV := Lib.hid hv
 obtain ⟨Al, cl, rfl, hlc, hrow⟩ := hv
 by_cases h1 : (plF (W.length + 1) F).length = 1
 ·obtain ⟨p, x, hpx, hp, hFp, hx0, hFb⟩ := one_plF h1
  have hx2 : x <= 2 := by rw [<- hFp]; exact h2 p
  have HEQ : Hid (plF (W.length + 1) (fun b => min 2 (x * rowV l i W p b)) = plF (W.length + 1) (thV l i W F)) := plF_congr fun b hb => by
   rw [thV_congr hFb, thV_one hp]
  obtain ⟨bl, ol, hA1, hblt, hc⟩ := hrow.two (fun e => by rw [e] at h1; cases h1)
  subst hA1
  have HCL : Hid (∀ w', RcRow w' (some ⟨bl, ol, none⟩) (plF (W.length + 1) F) -> w'.cell? ⟨bl, ol, none⟩ = some (.int .i64 (p : Int)) /\ w'.cell? ⟨bl, ol + 1, none⟩ = some (.int .i64 (x : Int))) := fun w' h => by
   obtain ⟨b3, o3, e3, _, hc3⟩ := h.two (fun e => by rw [e] at h1; cases h1)
   cases e3
   have := hc3 0 (by omega)
   rw [hpx] at this
   simpa using this
  have HS0 : Hid (AlS rb A l c (.slice Au W.length cu) W V m (.slice (some ⟨bl, ol, none⟩) (plF (W.length + 1) F).length cl) (plF (W.length + 1) F) w w) := ⟨Rk.refl _ _, hr, HIV.out⟩
  have HC : Hid (∀ wx, Rdr rb A l c (.slice Au W.length cu) W V m wx -> Calls Try.prog 45 #[.pointer (some ⟨rb, 0, none⟩), .int .i64 (i : Int), .int .i64 (p : Int)] wx (EndP m l V wx (plF (W.length + 1) (rowV l i W p)))) := fun wx h => hE rb _ W p wx h hW (by omega)
  have hz : ((((plF (W.length + 1) F).length : Nat) : Int) == 1) = true := by rw [h1]; rfl
  have hposz : (0 : Int) < (((plF (W.length + 1) F).length : Nat) : Int) := by omega
  have hposn : 0 < (plF (W.length + 1) F).length := by omega
  have HRW : Hid (∀ w', IsR w' (.slice (some ⟨bl, ol, none⟩) (plF (W.length + 1) F).length cl) (plF (W.length + 1) F) -> RcRow w' (some ⟨bl, ol, none⟩) (plF (W.length + 1) F)) := fun w' h => by
   obtain ⟨A3, c3, e3, _, h3⟩ := h
   cases e3
   exact h3
  have hR : ∀ w w', Below w.heap.size w w' -> RkR m l V w w' := fun w w' => RkR.of m l V w w'
  have HR := Lib.hid hR
  clear hR hr hrow hlc hE hA hpx hFp hFb hc h1
  go_enter Try.func59, Try.ntmps59
  go_upto_region 2 with (fail)
  refine G.wp_region_stable (R := (RkR m l V)) HR.out (S := (AlS rb A l c (.slice Au W.length cu) W V m (.slice (some ⟨bl, ol, none⟩) (plF (W.length + 1) F).length cl) (plF (W.length + 1) F) w)) (hSt := fun _ _ h hr => h.grow hr) (plan := [[(0, none)], [(1, none)], [(2, none)], [(12, some 2)], [(13, some 3)], [(14, some 4)], [(10, some 0), (11, some 1), (15, some 5)], [(2, none)], [(17, some 7)], [(18, some 8)], [(19, some 9)], [(16, some 6), (20, some 10)], [(21, some 11)]]) (by kernel_rfl) (by kernel_rfl) (by kernel_rfl) ?hS ?_
  rotate_left
  iterate 6 first
   | (refine G.chain_skip (by rfl) (by rfl) ?_)
   | (apply G.chain_want (by rfl)
      ·intro act wx hS hr
       simp at hr
       obtain ⟨c0, c1⟩ := HCL.out _ (HRW.out _ hS.row)
       go_simp
       (try go_ints)
       first
        | exact G.Done.same HR.out
     )
  (refine G.chain_rel (PlV m l V w (plF (W.length + 1) (rowV l i W p))) (PlV.grow m l V w _) (by rfl) ?_ ?_
   ·intro act wx hS hr
    simp at hr
    obtain ⟨c0, c1⟩ := HCL.out _ (HRW.out _ hS.row)
    all_goals go_simp
    (refine (HC.out wx hS.rd).mono ?_); rintro e w5 ⟨v5, rfl, hi5, hk5, ho5⟩; exact G.Done.rel hk5 (EndP.plv hS.rk hS.rd.kept hi5 hk5 ho5)
  )
  iterate 4 first
   | (refine G.chain_skip (by rfl) (by rfl) ?_)
   | (apply G.chain_want (by rfl)
      ·intro act wx hS hr
       simp at hr
       obtain ⟨c0, c1⟩ := HCL.out _ (HRW.out _ hS.row)
       go_simp
       (try go_ints)
       first
        | exact G.Done.same HR.out
     )
  (refine G.chain_rel (PlV m l V w (plF (W.length + 1) fun b => min 2 (x * rowV l i W p b))) (PlV.grow m l V w _) (by rfl) ?_ ?_
   ·intro act wx hS hr
    simp at hr
    obtain ⟨c0, c1⟩ := HCL.out _ (HRW.out _ hS.row)
    obtain ⟨⟨v, hr2, hv⟩, hr3⟩ := hr
    all_goals go_simp
    (try simp only [hr2, hr3, Option.getD_some]); refine (ctimes_any (W.length + 1) x v (rowV l i W p) wx hv.2.1 (by omega) (by omega) hx2 (fun b => rowV_le)).mono ?_; rintro e w5 ⟨v5, rfl, hi5, hb5, hor5⟩; exact G.Done.rel (HR.out _ _ hb5) (old_plv hS.rk hS.rd.kept hi5 hb5 hv.2.2 hor5)
  )
  (refine G.chain_rel (PlV m l V w (plF (W.length + 1) fun b => min 2 (x * rowV l i W p b))) (PlV.grow m l V w _) (by rfl) ?_ ?_
   ·intro act wx hS hr
    simp at hr
    obtain ⟨c0, c1⟩ := HCL.out _ (HRW.out _ hS.row)
    obtain ⟨v, hr3, hv⟩ := hr
    all_goals go_simp
    (try simp only [hr3, Option.getD_some]); exact G.Done.rel (HR.out _ _ (Below.refl _ _)) hv
  )
  show ∀ w', _ -> _
  intro w9 hw9
  simp [Act.put]
  case hS => exact HS0.out
  clear HS0
  intro v1 _ v2 _ v3 hv3
  have HPF : Hid (EndP m l V w (plF (W.length + 1) (thV l i W F)) (.returned v3) w9) := ⟨v3, rfl, by rw [<- HEQ.out]; exact hv3.2.1, hw9.rk, hv3.2.2⟩
  clear hv3 hw9
  go_wp2
  go_ret
  exact HPF.out
 ·have HC := Lib.hid (hA rb _ W F _ w hr hW h2 HIV.out)
  have hz : ((((plF (W.length + 1) F).length : Nat) : Int) == 1) = false := by rw [beq_eq_false_iff_ne]; omega
  clear hr hrow hlc hE hA h1 HIV
  generalize (plF (W.length + 1) F).length = ln at *
  go_enter Try.func59, Try.ntmps59
  go_wp2_with fail
  refine HC.out.mono ?_; rintro e w5 ⟨v5, rfl, hi5, hrk5, hout5⟩
  have HPF : Hid (EndP m l V w (plF (W.length + 1) (thV l i W F)) (.returned v5) w5) := ⟨v5, rfl, hi5, hrk5, hout5⟩
  obtain ⟨a9, c9, hv9, -⟩ := hi5
  subst hv9
  clear hrk5 hout5 HC
  generalize (plF (W.length + 1) (thV l i W F)).length = zz at *
  go_wp2
  go_ret
  exact HPF.out
structure EnS (rb : Nat) (A : Option Addr) (l : List Nd) (c : Nat) (u : Value) (W V : Wd) (m : Nat) (es : List (Ky × Value)) (kb i a : Nat) (w0 : World) (w : World) : Prop where
 bel : Rk m l V w0.heap.size [] w0 w
 rd : Rdr rb A l c u W V m w
 map : IsMapR w m es
 key : Blk w kb #[.int .i64 (i : Int), .int .i64 (a : Int), .int .i64 (W.length : Int)] 95
theorem EnS.later {rb : Nat} {A : Option Addr} {l : List Nd} {c : Nat} {u : Value} {W V : Wd} {m : Nat} {es : List (Ky × Value)} {kb i a : Nat} {w0 w w' : World} (h : EnS rb A l c u W V m es kb i a w0 w) (hb : Below w.heap.size w w') : EnS rb A l c u W V m es kb i a w0 w' :=
 ⟨h.bel.later h.bel.size hb, h.rd.later hb, (hb.block m h.map.lt).trans h.map, h.key.later hb⟩
structure EnR (rb : Nat) (A : Option Addr) (l : List Nd) (c : Nat) (u : Value) (W V : Wd) (m : Nat) (es : List (Ky × Value)) (kb i a : Nat) (A5 : Option Addr) (M : List (Nat × Nat)) (w0 : World) (w : World) : Prop where
 s : EnS rb A l c u W V m es kb i a w0 w
 row : RcRow w A5 M
theorem EnR.later {rb : Nat} {A : Option Addr} {l : List Nd} {c : Nat} {u : Value} {W V : Wd} {m : Nat} {es : List (Ky × Value)} {kb i a : Nat} {A5 : Option Addr} {M : List (Nat × Nat)} {w0 w w' : World} (h : EnR rb A l c u W V m es kb i a A5 M w0 w) (hb : Below w.heap.size w w') : EnR rb A l c u W V m es kb i a A5 M w0 w' := ⟨h.s.later hb, h.row.later hb⟩
theorem plF_row_pre {l : List Nd} {i a : Nat} {W V : Wd} (hW : W <+: V) : plF (W.length + 1) (rowV l i V a) = plF (W.length + 1) (rowV l i W a) := by
 obtain ⟨t, rfl⟩ := hW
 refine plF_congr fun b hb => ?_
 have := row_take (l := l) (i := i) (W := W ++ t) (a := a) (b := b) (c := W.length) (by omega)
 rw [List.take_left] at this
 exact this.symm
theorem cends_any {l : List Nd} {c m ba oa : Nat} {V : Wd} {i : Nat} (hF : Form l) (hin : i < l.length) (hl : l.length <= 1000000) (hT : ∀ n ∈ l, n.text.length <= 1073741824) (hn : V.length <= 900) (hA : AllC (some ⟨ba, oa, none⟩) l c m V i) : EndsC (some ⟨ba, oa, none⟩) l c m V i := by
 intro rb u W a w hr hW ha
 have hWn : W.length <= 900 := by obtain ⟨t, rfl⟩ := hW; simp at hn; omega
 have hkr := kind_range hF hin
 obtain ⟨b8, o8, hA8, g⟩ := hr.rd.row.at10 hin
 cases hA8
 obtain ⟨Au, cu, rfl, hcu⟩ := hr.rd.wd.len
 have hilz : (i : Int) < (l.length : Int) := by omega
 have HONE : Hid (plF (W.length + 1) (fun b => if b = a then 1 else 0) = [(a, 1)]) := plF_one (by omega) (by decide)
 have HTH : Hid (plF (W.length + 1) (thV l i W fun b => if b = a then 1 else 0) = plF (W.length + 1) (rowV l i W a)) := plF_congr fun b _ => thV_start (by omega)
 have hd2 : ∀ b, (fun b => if b = a then 1 else 0) b <= 2 := fun b => by show (if b = a then 1 else 0) <= 2; split <;> decide
 by_cases hk3 : (atN l i).kind <= 3
 ·have hp0 : ptsN (atN l i).kind = 0 := by unfold ptsN; rw [if_neg (by omega), if_neg (by omega)]
  have hb1 := (Below.refl w.heap.size w).alloc (Nat.le_refl _) (.cells #[.int .i64 (a : Int), .int .i64 1] 92)
  have hX1 : Blk (w.alloc (.cells #[.int .i64 (a : Int), .int .i64 1] 92)) w.heap.size (rcC (a, 1)) 92 := Blk.new w _ _
  have HV1 : Hid (IsR (w.alloc (.cells #[.int .i64 (a : Int), .int .i64 1] 92)) (.slice (some ⟨w.heap.size, 0, none⟩) 1 1) [(a, 1)]) := ⟨_, 1, rfl, Nat.le_refl _, RcRow.one hX1⟩
  have hr1 := hr.later hb1
  have HC := Lib.hid (cleaf_any rb (some ⟨ba, oa, none⟩) l c (.slice Au W.length cu) W m ba (oa + i * 10) (atN l i) (.slice (some ⟨w.heap.size, 0, none⟩) 1 1) [(a, 1)] (w.alloc (.cells #[.int .i64 (a : Int), .int .i64 1] 92)) hr1.rd (g.later hb1) HV1.out (fun p hp => by rw [List.mem_singleton] at hp; subst hp; exact ha) (by simp) (hT _ (by unfold atN; exact getD_mem0 hin)) (by omega))
  have hle := leaf_end (F := fun b => if b = a then 1 else 0) (W := W) hF hin hk3 hd2
  rw [HONE.out, HTH.out] at hle
  rw [hle] at HC
  have HCP := Lib.hid (fun w' => cparts_any (atN l i).kind w')
  rw [hp0] at HCP
  have HB1 := Lib.hid hb1
  have r0 := hr.rd.blk.cell 0
  simp at r0
  generalize atN l i = nd at *
  obtain ⟨kk, na, nb, nlo, nhi, ncls, ntext⟩ := nd
  unfold At10 at g
  simp only at g HCP
  obtain ⟨g0, g1, g2, g3, g4, g5, g6, g7, g8, g9⟩ := g
  clear hr hA hp0 hb1 hX1 HV1 hr1 hle g1 g2 g3 g4 g5 g6 g7 g8 g9 HONE HTH hkr hd2
  generalize plF (W.length + 1) (rowV l i W a) = MM at *
  go_enter Try.func45, Try.ntmps45
  go_wp2_with fail
  refine (HCP.out _).mono ?_; rintro e w2 ⟨rfl, rfl⟩
  clear HCP
  go_wp2_with fail
  refine HC.out.mono ?_; rintro e w5 ⟨v5, rfl, ho5, hb5⟩
  have HPF : Hid (EndP m l V w MM (.returned v5) w5) := ⟨v5, rfl, ho5.isR, .of_below (HB1.out.trans (hb5.mono HB1.out.size)), fun X hX _ => (ho5.nw.mono HB1.out.size).out hX⟩
  obtain ⟨a9, c9, hv9, -⟩ := ho5.isR
  subst hv9
  clear ho5 hb5 HC
  generalize MM.length = zz at *
  go_wp2
  go_ret
  exact HPF.out
 ·have hp0 : 1 <= ptsN (atN l i).kind := by
   unfold ptsN
   by_cases h : (atN l i).kind = 4 \/ (atN l i).kind = 5
   ·rw [if_pos h]; decide
   ·rw [if_neg h, if_pos (by omega)]; decide
  have HCP := Lib.hid (fun w' => cparts_any (atN l i).kind w')
  generalize ptsN (atN l i).kind = np at *
  have hpz : ((np : Int) == 0) = false := by rw [beq_eq_false_iff_ne]; omega
  obtain ⟨es, hm, hes⟩ := hr.kept
  have hb1 := (Below.refl w.heap.size w).alloc (Nat.le_refl _) (.cells #[.int .i64 (i : Int), .int .i64 (a : Int), .int .i64 (W.length : Int)] 95)
  have HS1 : Hid (EnS rb (some ⟨ba, oa, none⟩) l c (.slice Au W.length cu) W V m es w.heap.size i a w (w.alloc (.cells #[.int .i64 (i : Int), .int .i64 (a : Int), .int .i64 (W.length : Int)] 95))) := ⟨.of_below hb1, hr.later hb1, (hb1.block m hm.lt).trans hm, Blk.new w _ _⟩
  have r0 := hr.rd.blk.cell 0
  have r1 := hr.rd.blk.cell 1
  simp at r0 r1
  have HLK := Lib.hid (fun (wx : World) (h : IsMapR wx m es) => run_lookup_ky wx m es (i, a, W.length) h)
  have HPRE := Lib.hid (plF_row_pre (l := l) (i := i) (a := a) hW)
  have HWV : Hid (W.length <= V.length) := hW.length_le
  have HAW : Hid (a <= W.length) := ha
  generalize atN l i = nd at *
  obtain ⟨kk, na, nb, nlo, nhi, ncls, ntext⟩ := nd
  unfold At10 at g
  simp only at g HCP
  obtain ⟨g0, g1, g2, g3, g4, g5, g6, g7, g8, g9⟩ := g
  clear g1 g2 g3 g4 g5 g6 g7 g8 g9 hkr hk3 hp0 hb1 hT
  cases hfd : findER es (i, a, W.length) 0 with
  | some p =>
   obtain ⟨j, v⟩ := p
   have hv := hes _ _ (findER_some hfd)
   obtain ⟨-, -, -, A5, c5, hv5, hlc5, hrow5, -⟩ := hv
   rw [HPRE.out] at hv5 hlc5 hrow5
   have HOUT : Hid (∀ X, (∀ g, X g -> g < w.heap.size) -> KeptX w m l V X -> Out v X) := fun X _ hK => by
    obtain ⟨es', hm', hes'⟩ := hK
    have he := ismap_inj hm hm'
    subst he
    obtain ⟨-, -, -, A6, c6, hv6, -, -, hno⟩ := hes' _ _ (findER_some hfd)
    intro A7 n7 c7 e7 hn7 b7 o7 ho7
    rw [hv6] at e7
    cases e7
    exact hno (fun e => hn7 (by rw [e]; rfl)) b7 o7 ho7
   have HRO := Lib.hid hrow5
   have HLC := Lib.hid hlc5
   have HLK2 : Hid (∀ wx, IsMapR wx m es -> (Instr.lookup 74 (.map (some m)) (.agg #[.int .i64 (i : Int), .int .i64 (a : Int), .int .i64 (W.length : Int)]) true).run Try.prog wx = .ok (.tuple #[v, .bool true]) wx) := fun wx h => by
    have := HLK.out wx h
    rw [hfd] at this
    exact this
   have HRR : Hid (∀ w', Rk m l V w.heap.size [] w w' -> RcRow w' A5 (plF (W.length + 1) (rowV l i W a))) := fun w' h => (h.kc ⟨_, hr.kept⟩).rrow hrow5
   subst hv5
   clear hfd hes hm hr hrow5 hlc5 HLK HPRE hA HTH hd2
   generalize plF (W.length + 1) (rowV l i W a) = MM at *
   go_enter Try.func45, Try.ntmps45
   go_wp2_with fail
   refine (HCP.out _).mono ?_; rintro e w2 ⟨rfl, rfl⟩
   clear HCP
   go_upto_region 5 with (fail)
   clear g0 r0 r1
   generalize w.alloc (.cells #[.int .i64 (i : Int), .int .i64 (a : Int), .int .i64 (W.length : Int)] 95) = w1 at *
   refine wp_region_stable (S := (EnS rb (some ⟨ba, oa, none⟩) l c (.slice Au W.length cu) W V m es w.heap.size i a w)) (hSt := fun _ _ h hb => h.later hb) (plan := [[(0, none)], [(38, some 0)], [(39, some 1)], [(40, some 2)], [(8, none)], [(41, some 3), (42, some 4)], [(43, some 5)], [(37, some 6)], [(37, some 6)], [(44, some 7)], [(45, some 8)]]) (by kernel_rfl) (by kernel_rfl) (by kernel_rfl) ?hS ?_
   rotate_left
   iterate 11 first
    | (refine chain_skip (by rfl) (by rfl) ?_)
    | (apply chain_want (by rfl)
       ·intro act wx hS hr
        simp at hr
        have k0 := hS.key.cell 0
        have k1 := hS.key.cell 1
        have k2 := hS.key.cell 2
        have r2 := hS.rd.rd.blk.cell 2
        simp at k0 k1 k2 r2
        have hlk := HLK2.out _ hS.map
        go_simp
        (try go_ints)
        first
         | exact Done.same
      )
   show ∀ w', _ -> _
   intro w9 hw9
   simp [Act.put]
   case hS => exact HS1.out
   have HPF : Hid (EndP m l V w MM (.returned (.slice A5 MM.length c5)) w9) := ⟨_, rfl, ⟨A5, c5, rfl, HLC.out, HRR.out _ hw9.bel⟩, hw9.bel, HOUT.out⟩
   clear hw9 HS1 HLK2
   generalize MM.length = zz at *
   go_wp2
   go_ret
   exact HPF.out
  | none =>
   have HLK2 : Hid (∀ wx, IsMapR wx m es -> (Instr.lookup 74 (.map (some m)) (.agg #[.int .i64 (i : Int), .int .i64 (a : Int), .int .i64 (W.length : Int)]) true).run Try.prog wx = .ok (.tuple #[.slice none 0 0, .bool false]) wx) := fun wx h => by
    have := HLK.out wx h
    rw [hfd] at this
    exact this
   have HAA : Hid (∀ vl wx, Rdr rb (some ⟨ba, oa, none⟩) l c (.slice Au W.length cu) W V m wx -> IsR wx vl [(a, 1)] -> Calls Try.prog 57 #[.pointer (some ⟨rb, 0, none⟩), .int .i64 (i : Int), vl] wx (EndP m l V wx (plF (W.length + 1) (rowV l i W a)))) := fun vl wx h1 h2 => by
    have := hA rb (.slice Au W.length cu) W (fun b => if b = a then 1 else 0) vl wx h1 hW hd2 (by rw [HONE.out]; exact h2)
    rwa [HTH.out] at this
   have HK0 := Lib.hid hr.kept
   clear hfd hes hm hr HLK hA HTH HONE hd2
   go_enter Try.func45, Try.ntmps45
   go_wp2_with fail
   refine (HCP.out _).mono ?_; rintro e w2 ⟨rfl, rfl⟩
   clear HCP
   go_upto_region 5 with (fail)
   clear g0 r0 r1
   generalize w.alloc (.cells #[.int .i64 (i : Int), .int .i64 (a : Int), .int .i64 (W.length : Int)] 95) = w1 at *
   refine wp_region_stable (S := (EnS rb (some ⟨ba, oa, none⟩) l c (.slice Au W.length cu) W V m es w.heap.size i a w)) (hSt := fun _ _ h hb => h.later hb) (plan := [[(0, none)], [(38, some 0)], [(39, some 1)], [(40, some 2)], [(8, none)], [(41, some 3), (42, some 4)], [(43, some 5)], [(37, some 6)], [(37, some 6)], [(44, some 7)], [(45, some 8)]]) (by kernel_rfl) (by kernel_rfl) (by kernel_rfl) ?hS ?_
   rotate_left
   iterate 11 first
    | (refine chain_skip (by rfl) (by rfl) ?_)
    | (apply chain_want (by rfl)
       ·intro act wx hS hr
        simp at hr
        have k0 := hS.key.cell 0
        have k1 := hS.key.cell 1
        have k2 := hS.key.cell 2
        have r2 := hS.rd.rd.blk.cell 2
        simp at k0 k1 k2 r2
        have hlk := HLK2.out _ hS.map
        go_simp
        (try go_ints)
        first
         | exact Done.same
      )
   show ∀ w', _ -> _
   intro w9 hw9
   simp [Act.put]
   case hS => exact HS1.out
   have hb10 := (Below.refl w9.heap.size w9).alloc (Nat.le_refl _) (.cells #[.int .i64 (a : Int), .int .i64 1] 92)
   have hX10 : Blk (w9.alloc (.cells #[.int .i64 (a : Int), .int .i64 1] 92)) w9.heap.size (rcC (a, 1)) 92 := Blk.new w9 _ _
   have HS10 := Lib.hid (hw9.later hb10)
   have HC := Lib.hid (HAA.out (.slice (some ⟨w9.heap.size, 0, none⟩) 1 1) _ HS10.out.rd ⟨_, 1, rfl, Nat.le_refl _, RcRow.one hX10⟩)
   clear hw9 HS1 HLK2 HAA hb10 hX10
   go_wp2_with fail
   refine HC.out.mono ?_; rintro e w11 ⟨v11, rfl, hi11, hrk11, hout11⟩
   have hkc := hrk11.kc ⟨_, HS10.out.rd.kept⟩
   have HRK11 := Lib.hid (HS10.out.bel.call HS10.out.bel.size hrk11)
   have HRD11 := Lib.hid (HS10.out.rd.rk hrk11)
   have HKB11 := Lib.hid (hkc.block _ HS10.out.key.lt _ _ HS10.out.key)
   obtain ⟨A5, c5, hv5, hlc5, hrow5⟩ := hi11
   have HRO := Lib.hid hrow5
   have HLC := Lib.hid hlc5
   have HOUT : Hid (∀ X, (∀ g, X g -> g < w.heap.size) -> KeptX w m l V X -> Out v11 X) := fun X hX hK => hout11 X (fun g hg => Nat.lt_of_lt_of_le (hX g hg) HS10.out.bel.size) ((HS10.out.bel.map X hX hK).less fun g hg => .inl hg)
   obtain ⟨es2, hm2, -⟩ := HRD11.out.kept
   have HM2 := Lib.hid hm2
   subst hv5
   clear hkc hrk11 hout11 hlc5 hrow5 hm2 HC HS10
   have HPUT : Hid (∀ wx, Rk m l V w.heap.size [] w wx -> IsMapR wx m es2 -> RcRow wx A5 (plF (W.length + 1) (rowV l i W a)) -> Rk m l V w.heap.size [] w (putMapR wx m (putER es2 (i, a, W.length) (.slice A5 (plF (W.length + 1) (rowV l i W a)).length c5)))) := fun wx h1 h2 h3 => by
    have := Rk.putE (k := (i, a, W.length)) (A := A5) (c := c5) h1 h2 hin HAW.out HWV.out (by simp only; rw [HPRE.out]; exact HLC.out) (by simp only; rw [HPRE.out]; exact h3) (by simp only; rw [HPRE.out]; exact HOUT.out)
    simp only at this
    rw [HPRE.out] at this
    exact this
   have HUP := Lib.hid (fun (wx : World) (h : IsMapR wx m es2) => run_update_kyE wx m es2 (i, a, W.length) (.slice A5 (plF (W.length + 1) (rowV l i W a)).length c5) h)
   have HRKP : Hid (∀ wx, Below w11.heap.size w11 wx -> Rk m l V w.heap.size [] w wx /\ IsMapR wx m es2 /\ RcRow wx A5 (plF (W.length + 1) (rowV l i W a))) := fun wx hb => ⟨HRK11.out.later HRK11.out.size hb, (hb.block m HM2.out.lt).trans HM2.out, HRO.out.later hb⟩
   have HRP : Hid (∀ wx es3, IsMapR wx m es2 -> RcRow wx A5 (plF (W.length + 1) (rowV l i W a)) -> RcRow (putMapR wx m es3) A5 (plF (W.length + 1) (rowV l i W a))) := fun wx es3 hm h => h.keep fun b cur hb => (putMapR_other (ismap_blk hm hb) _).trans hb
   have HIS : Hid (EnR rb (some ⟨ba, oa, none⟩) l c (.slice Au W.length cu) W V m es2 w.heap.size i a A5 (plF (W.length + 1) (rowV l i W a)) w w11) := ⟨⟨HRK11.out, HRD11.out, HM2.out, HKB11.out⟩, HRO.out⟩
   have HFIN : Hid (∀ wx, Rk m l V w.heap.size [] w wx -> RcRow wx A5 (plF (W.length + 1) (rowV l i W a)) -> EndP m l V w (plF (W.length + 1) (rowV l i W a)) (.returned (.slice A5 (plF (W.length + 1) (rowV l i W a)).length c5)) wx) := fun wx h1 h2 => ⟨_, rfl, ⟨A5, c5, rfl, HLC.out, h2⟩, h1, HOUT.out⟩
   clear HRK11 HRD11 HKB11 HRO HLC HOUT HPRE HM2
   generalize plF (W.length + 1) (rowV l i W a) = MM at *
   generalize MM.length = zz at *
   go_upto_region 8 with (fail)
   refine wp_region_stable_last (S := (EnR rb (some ⟨ba, oa, none⟩) l c (.slice Au W.length cu) W V m es2 w.heap.size i a A5 MM w)) (hSt := fun _ _ h hb => h.later hb) (plan := [[(0, none)], [(54, some 0)], [(55, some 1)], [(56, some 2)], [(8, none)], [(9, none)]]) rfl (by kernel_rfl) (by kernel_rfl) (by kernel_rfl) (by kernel_rfl) ?hS ?_
   rotate_left
   simp only [List.dropLast]
   iterate 6 first
    | (refine chain_skip (by rfl) (by rfl) ?_)
    | (apply chain_want (by rfl)
       ·intro act wx hS hr
        simp at hr
        have k0 := hS.s.key.cell 0
        have k1 := hS.s.key.cell 1
        have k2 := hS.s.key.cell 2
        have r2 := hS.s.rd.rd.blk.cell 2
        simp at k0 k1 k2 r2
        go_simp
        (try go_ints)
        first
         | exact Done.same
      )
   show ∀ w', _ -> _
   intro w12 hw12
   simp [Act.put]
   case hS => exact HIS.out
   have hup := HUP.out _ hw12.s.map
   unfold kyV at hup
   simp only at hup
   have HPF : Hid (EndP m l V w MM (.returned (.slice A5 zz c5)) (putMapR w12 m (putER es2 (i, a, W.length) (.slice A5 zz c5)))) := HFIN.out _ (HPUT.out _ hw12.s.bel hw12.s.map hw12.row) (HRP.out _ _ hw12.s.map hw12.row)
   generalize putMapR w12 m (putER es2 (i, a, W.length) (.slice A5 zz c5)) = w13 at *
   clear hw12 HIS HUP HFIN HPUT HRP HRKP
   go_wp2
   go_ret
   exact HPF.out
theorem cread_all {l : List Nd} {c m ba oa : Nat} {V : Wd} (hF : Form l) (hl : l.length <= 1000000) (hT : ∀ n ∈ l, n.text.length <= 1073741824) (hn : V.length <= 900) : ∀ i, i < l.length -> AllC (some ⟨ba, oa, none⟩) l c m V i /\ EndsC (some ⟨ba, oa, none⟩) l c m V i /\ ReadC (some ⟨ba, oa, none⟩) l c m V i := by
 intro i
 induction i using Nat.strongRecOn with
 | ind i ih =>
  intro hi
  have hA := call_any (c := c) (m := m) (ba := ba) (oa := oa) hF hi hl hT hn (fun j hj => (ih j hj (by omega)).2.2) (fun j hj => (ih j hj (by omega)).1) (fun j hj => (ih j hj (by omega)).2.1)
  have hE := cends_any hF hi hl hT hn hA
  exact ⟨hA, hE, cread_any hn hE hA⟩
def wyD (l : List Nd) (W : Wd) : Nat := rowV l (l.length - 1) W 0 W.length
theorem wyD_eq {l : List Nd} {W : Wd} : wyD l W = min 2 (cntN l (l.length - 1) W) := by
 unfold wyD rowV; rw [if_pos (Nat.zero_le _), sgW_all]
theorem wyD_le {l : List Nd} {W : Wd} : wyD l W <= 2 := rowV_le
def NrR (A : Option Addr) (l : List Nd) (c : Nat) (W : Wd) (B : Nat) (v : Value) (w : World) : Prop := ∃ rb u m, v = .pointer (some ⟨rb, 0, none⟩) /\ Rdr rb A l c u W W m w /\ B <= m
theorem NrR.later (A : Option Addr) (l : List Nd) (c : Nat) (W : Wd) (B : Nat) : ∀ v w w', NrR A l c W B v w -> Below w.heap.size w w' -> NrR A l c W B v w' := fun v w w' ⟨rb, u, m, h1, h2, h3⟩ hb => ⟨rb, u, m, h1, h2.later hb, h3⟩
theorem NrP.nr {A : Option Addr} {l : List Nd} {c : Nat} {W : Wd} {B : Nat} {w0 w : World} {e : Ending} (h : NrP w0 A l c W e w) (hB : B <= w0.heap.size) : ∃ v, e = .returned v /\ NrR A l c W B v w /\ Below w0.heap.size w0 w := by
 obtain ⟨rb, u, m, rfl, h1, h2, h3, h4⟩ := h
 exact ⟨_, rfl, ⟨rb, u, m, rfl, ⟨h1, [], h2, fun k v hk => by cases hk⟩, by omega⟩, h3⟩
theorem Rk.below {m : Nat} {l : List Nd} {V : Wd} {B : Nat} {w w' : World} (h : Rk m l V w.heap.size [] w w') (hm : B <= m) (hB : B <= w.heap.size) : Below B w w' :=
 ⟨h.os, h.tape, h.output, h.size, fun k hk => h.block k (by omega) (by omega)⟩
structure WyS (w0 : World) (A : Option Addr) (l : List Nd) (c : Nat) (W : Wd) (u : Value) (w : World) : Prop where
 bel : Below w0.heap.size w0 w
 row : NRow w A l
 wd : IsW W u w
 box : Blk w w0.heap.size #[.slice A l.length c] 24
theorem WyS.later {w0 : World} {A : Option Addr} {l : List Nd} {c : Nat} {W : Wd} {u : Value} {w w' : World} (h : WyS w0 A l c W u w) (hb : Below w.heap.size w w') : WyS w0 A l c W u w' := ⟨h.bel.trans (hb.mono h.bel.size), h.row.later hb, h.wd.later hb, h.box.later hb⟩
def WyP (w0 : World) (x : Nat) (e : Ending) (w : World) : Prop := e = .returned (.int .i64 (x : Int)) /\ Below w0.heap.size w0 w
theorem cWays_any {A : Option Addr} {l : List Nd} {c : Nat} {u : Value} {W : Wd} (hF : Form l) (hl : l.length <= 4096) (hT : ∀ n ∈ l, n.text.length <= 1073741824) (hn : W.length <= 900) (w : World) (hrow : NRow w A l) (hw : IsW W u w) :
 Calls Try.prog 13 #[.agg #[.slice A l.length c], u] w (WyP w (wyD l W)) := by
 have hpos : 0 < l.length := hF.1
 obtain ⟨ba, oa, rfl, -, -⟩ := hrow 0 hpos
 have hb1 := (Below.refl w.heap.size w).alloc (Nat.le_refl _) (.cells #[.slice (some ⟨ba, oa, none⟩) l.length c] 24)
 have HS1 : Hid (WyS w (some ⟨ba, oa, none⟩) l c W u (w.alloc (.cells #[.slice (some ⟨ba, oa, none⟩) l.length c] 24))) := ⟨hb1, hrow.later hb1, hw.later hb1, Blk.new w _ _⟩
 have HO : Hid (∀ w', NRow w' (some ⟨ba, oa, none⟩) l -> Calls Try.prog 28 #[.slice (some ⟨ba, oa, none⟩) l.length c] w' (Ans w' (.bool true))) := fun w' h => cordered_any _ l c hF hl w' h
 have HN : Hid (∀ w', NRow w' (some ⟨ba, oa, none⟩) l -> IsW W u w' -> Calls Try.prog 29 #[.agg #[.slice (some ⟨ba, oa, none⟩) l.length c], u] w' (NrP w' (some ⟨ba, oa, none⟩) l c W)) := fun w' h1 h2 => cnewReader_any _ l c u W w' h1 h2
 have HE : Hid (∀ m, EndsC (some ⟨ba, oa, none⟩) l c m W (l.length - 1)) := fun m => (cread_all hF (by omega) hT hn (l.length - 1) (by omega)).2.1
 obtain ⟨Au, cu, rfl, hcu⟩ := hw.len
 have hlz : (l.length : Int) <= 4096 := by omega
 have hlz1 : (1 : Int) <= (l.length : Int) := by omega
 have hsubz : (l.length : Int) - 1 = ((l.length - 1 : Nat) : Int) := by omega
 have hWz : (W.length : Int) <= 900 := by omega
 have HX : Hid (rowV l (l.length - 1) W 0 W.length = wyD l W) := rfl
 have HWN := Lib.hid hn
 clear hrow hw hb1 hF hT
 have HC1 := Lib.hid (HO.out _ HS1.out.row)
 go_enter Try.func13, Try.ntmps13
 go_wp2_with fail
 refine HC1.out.mono ?_; rintro e w2 ⟨rfl, hb2⟩
 have HS2 := Lib.hid (HS1.out.later (hb2.mono (Nat.le_refl _)))
 clear HC1 HO hb2 HS1
 go_upto_region 3 with (fail)
 refine wp_region_stable_tail 9 (S := (WyS w (some ⟨ba, oa, none⟩) l c W (.slice Au W.length cu))) (hSt := fun _ _ h hb => h.later hb) (plan := [[(2, none)], [(1, none)], [(9, some 0), (10, some 1)], [(2, none)], [(12, some 3)], [(13, some 4)], [(14, some 5)], [(1, none)], [(16, some 7)]]) rfl rfl (by kernel_rfl) (by kernel_rfl) (by kernel_rfl) (by kernel_rfl) ?hS ?_
 rotate_left
 iterate 2 first
  | (refine chain_skip (by rfl) (by rfl) ?_)
  | (apply chain_want (by rfl)
     ·intro act wx hS hr
      simp at hr
      have HN1 := Lib.hid (HN.out _ hS.row hS.wd)
      have d0 := hS.box.cell 0
      simp at d0
      go_simp
      (try go_ints)
      first
       | exact Done.same
    )
 (refine chain_rel (NrR (some ⟨ba, oa, none⟩) l c W w.heap.size) (NrR.later (some ⟨ba, oa, none⟩) l c W w.heap.size) (by rfl) ?_ ?_
  ·intro act wx hS hr
   simp at hr
   have HN1 := Lib.hid (HN.out _ hS.row hS.wd)
   have d0 := hS.box.cell 0
   simp at d0
   all_goals go_simp
   (with_reducible refine HN1.out.mono ?_); rintro e w7 h7; obtain ⟨v7, rfl, hr7, hb7⟩ := h7.nr hS.bel.size; exact Done.rel hb7 hr7
 )
 iterate 6 first
  | (refine chain_skip (by rfl) (by rfl) ?_)
  | (apply chain_want (by rfl)
     ·intro act wx hS hr
      simp at hr
      have HN1 := Lib.hid (HN.out _ hS.row hS.wd)
      have d0 := hS.box.cell 0
      simp at d0
      go_simp
      (try go_ints)
      first
       | exact Done.same
    )
 show ∀ w', _ -> _
 intro w8 hw8
 simp [Act.put]
 case hS => exact HS2.out
 intro v43 hv43
 obtain ⟨rb8, u8, m8, rfl, hr8, hm8⟩ := hv43
 have HX8 := Lib.hid hw8
 have HM8 := Lib.hid hm8
 have HC := Lib.hid (cways_any (HE.out m8) rb8 u8 W 0 W.length w8 hr8 (List.prefix_refl W) HWN.out (Nat.zero_le _) (Nat.le_refl _))
 rw [HX.out] at HC
 clear hw8 hr8 hm8 HN HE
 go_wp2_with fail
 refine HC.out.mono ?_; rintro e9 w9 ⟨rfl, hrk9⟩
 have HP : Hid (WyP w (wyD l W) (.returned (.int .i64 (wyD l W : Int))) w9) := ⟨rfl, HX8.out.bel.trans (hrk9.below HM8.out HX8.out.bel.size)⟩
 clear HC hrk9 HX8 HM8
 go_wp2
 go_ret
 exact HP.out
theorem cHas_any {A : Option Addr} {l : List Nd} {c : Nat} {u : Value} {W : Wd} (hF : Form l) (hl : l.length <= 4096) (hT : ∀ n ∈ l, n.text.length <= 1073741824) (hn : W.length <= 900) (w : World) (hrow : NRow w A l) (hw : IsW W u w) :
 Calls Try.prog 14 #[.agg #[.slice A l.length c], u] w (Ans w (.bool (decide (0 < wyD l W)))) := by
 have hb1 := (Below.refl w.heap.size w).alloc (Nat.le_refl _) (.cells #[.slice A l.length c] 24)
 have HC := Lib.hid (cWays_any (c := c) hF hl hT hn _ (hrow.later hb1) (hw.later hb1))
 have HB := Lib.hid hb1
 have hx2 : wyD l W <= 2 := wyD_le
 have hxd : decide ((wyD l W : Int) > 0) = decide (0 < wyD l W) := by rw [decide_eq_decide]; omega
 clear hrow hw hb1 hF hT
 generalize wyD l W = x at *
 go_enter Try.func14, Try.ntmps14
 go_wp2_with fail
 refine HC.out.mono ?_; rintro e w2 ⟨rfl, hb2⟩
 have HQ : Hid (Ans w (.bool (decide (0 < x))) (.returned (.bool (decide (0 < x)))) w2) := ⟨rfl, HB.out.trans (hb2.mono HB.out.size)⟩
 clear hb2 HC HB
 go_wp2
 go_ret
 exact HQ.out
theorem vlC_five (v : Vl) (B : Option Addr) (c : Nat) : vlC v B c = #[.int .i64 v.kind, .int .u8 ((v.byte.toNat : Nat) : Int), .string (bs v.text), .int .i64 v.pick, .slice B v.kids.len c] := rfl
def cntTo (s : Vs) (k : Nat) : Nat := ((s.list.take k).map cntV).sum
theorem cntTo_succ {s : Vs} {k : Nat} (h : k < s.len) : cntTo s (k + 1) = cntTo s k + cntV (s.at k) := by
 unfold cntTo
 rw [List.take_add_one, Vs.at_get h, List.map_append, List.sum_append]; simp [Option.toList]
theorem cntTo_all (s : Vs) : cntTo s s.len = cntVs s := by
 unfold cntTo Vs.len
 rw [List.take_length, cntVs_list]
theorem cntTo_le (s : Vs) (k : Nat) : cntTo s k <= cntVs s := by
 rw [cntVs_list]
 unfold cntTo
 have e : s.list.map cntV = (s.list.take k).map cntV ++ (s.list.drop k).map cntV := by rw [<- List.map_append, List.take_append_drop]
 rw [e, List.sum_append]; omega
structure MnS (w0 : World) (v : Vl) (B : Option Addr) (c : Nat) (w : World) : Prop where
 bel : Below w0.heap.size w0 w
 box : Blk w w0.heap.size (vlC v B c) 32
 row : VRow w B 0 v.kids
theorem MnS.later {w0 w w' : World} {v : Vl} {B : Option Addr} {c : Nat} (h : MnS w0 v B c w) (hb : Below w.heap.size w w') : MnS w0 v B c w' := ⟨h.bel.trans (hb.mono h.bel.size), h.box.later hb, h.row.later hb⟩
theorem MnS.new {w : World} {v : Vl} {B : Option Addr} {c : Nat} (h : VRow w B 0 v.kids) : MnS w v B c (w.alloc (.cells (vlC v B c) 32)) := by
 have HB := (Below.refl w.heap.size w).alloc (Nat.le_refl _) (.cells (vlC v B c) 32)
 exact ⟨HB, Blk.new _ _ _, h.later HB⟩
theorem vl_cells {w : World} {g : Nat} {k p : Int} {b : UInt8} {t : List UInt8} {ks : Vs} {B : Option Addr} {c : Nat} (h : Blk w g (vlC ⟨k, b, t, p, ks⟩ B c) 32) :
 w.cell? ⟨g, 0, none⟩ = some (.int .i64 k) /\ w.cell? ⟨g, 1, none⟩ = some (.int .u8 ((b.toNat : Nat) : Int)) /\ w.cell? ⟨g, 2, none⟩ = some (.string (bs t)) /\ w.cell? ⟨g, 3, none⟩ = some (.int .i64 p) /\ w.cell? ⟨g, 4, none⟩ = some (.slice B ks.len c) :=
 ⟨h.cell 0, h.cell 1, h.cell 2, h.cell 3, h.cell 4⟩
def MnL (w0 : World) (v : Vl) (B : Option Addr) (c : Nat) (n x : Value) (w : World) : Prop := ∃ k : Nat, k <= v.kids.len /\ x = .int .i64 (k : Int) /\ n = .int .i64 ((1 + cntTo v.kids k : Nat) : Int) /\ MnS w0 v B c w
theorem rmany_any : ∀ (v : Vl), cntV v <= 4611686018427387904 -> ∀ (u : Value) (w : World), IsV w u v -> Calls Try.prog 31 #[u] w (Ans w (.int .i64 ((cntV v : Nat) : Int))) := fun v => by
 induction v using Vl.kids_ind with
 | h v ih =>
  intro hbig u w hu
  obtain ⟨B, c, hc, rfl, hr⟩ := hu
  have HS0 := Lib.hid (MnS.new (c := c) hr)
  have IH : Hid (∀ j, j < v.kids.len -> ∀ (u : Value) (w : World), IsV w u (v.kids.at j) -> Calls Try.prog 31 #[u] w (Ans w (.int .i64 ((cntV (v.kids.at j) : Nat) : Int)))) := fun j hj => ih _ (List.mem_of_getElem? (Vs.at_get hj)) (by have := cntV_kid hj; omega)
  have HV : Hid (cntV v = 1 + cntTo v.kids v.kids.len) := by unfold Hid; rw [cntTo_all]; rfl
  have hlen : v.kids.len < 4611686018427387904 := by have := cntVs_len v.kids; unfold cntV at hbig; omega
  have HT : Hid (∀ k, 1 + cntTo v.kids k <= 4611686018427387904) := fun k => by have := cntTo_le v.kids k; unfold cntV at hbig; omega
  have HU : Hid (∀ k, k < v.kids.len -> cntTo v.kids (k + 1) = cntTo v.kids k + cntV (v.kids.at k)) := fun k hk => cntTo_succ hk
  obtain ⟨r, hrr⟩ : ∃ r, cntV v = r := ⟨_, rfl⟩
  rw [hrr] at HV ⊢
  clear ih hbig hr hrr
  obtain ⟨kk, vb, vt, vp, ks⟩ := v
  simp only at HS0 IH HV hlen HT HU hc
  rw [vlC_five]
  simp only
  go_enter Try.func31, Try.ntmps31
  go_upto_region 1 with (fail)
  rw [vlC_five] at HS0
  simp only at HS0
  generalize w.alloc (.cells #[.int .i64 kk, .int .u8 ((vb.toNat : Nat) : Int), .string (bs vt), .int .i64 vp, .slice B ks.len c] 32) = w1 at *
  go_wp2
  go_loopw [3, 4] (MnL w ⟨kk, vb, vt, vp, ks⟩ B c) (fun _ x _ => ks.len - (intOf x).toNat)
  case atStart => exact ⟨0, Nat.zero_le _, rfl, rfl, HS0.out⟩
  case round =>
   obtain ⟨k, hk, rfl, rfl, hs⟩ := hrel
   have HS := Lib.hid hs
   simp only at hk
   clear hs HS0
   obtain ⟨f0, f1, f2, f3, f4⟩ := vl_cells HS.out.box
   have ht := HT.out k
   by_cases hlt : k < ks.len
   ·have hltz : (k : Int) < (ks.len : Int) := by omega
    obtain ⟨g, o, rfl, hg, hat⟩ := VRow.at_ HS.out.row hlt
    have HI : Hid (∀ B' c' w', ((ks.at k).kids).len <= c' -> VRow w' B' 0 (ks.at k).kids -> Calls Try.prog 31 #[.agg (vlC (ks.at k) B' c')] w' (Ans w' (.int .i64 ((cntV (ks.at k) : Nat) : Int)))) := fun B' c' w' h1 h2 => IH.out k hlt _ w' ⟨B', c', h1, rfl, h2⟩
    have hu := HU.out k hlt
    have ht2 := HT.out (k + 1)
    rw [hu] at ht2
    simp only at hat
    generalize ks.at k = y at *
    obtain ⟨yk, yb, yt, yp, ys⟩ := y
    obtain ⟨B', c', q0, q1, q2, q3, q4, q5, q6⟩ := hat.five
    have HC := Lib.hid (HI.out B' c' wr q0 q6)
    rw [vlC_five] at HC
    simp only at HC q1 q2 q3 q4 q5
    generalize cntV ⟨yk, yb, yt, yp, ys⟩ = cy at *
    generalize hct : cntTo ks k = ct at *
    have HU2 := Lib.hid hu
    clear hat HI q0 q6 hu hct HU HT IH
    rw [Nat.zero_add] at q1 q2 q3 q4 q5
    go_wp2_with fail
    refine HC.out.mono ?_; rintro e w2 ⟨rfl, hb⟩
    have HS2 := Lib.hid (HS.out.later hb)
    clear hb HC f0 f1 f2 f3 f4 q1 q2 q3 q4 q5
    go_wp2
    go_roundw
    case rel => exact ⟨k + 1, by simp only; omega, by go_num, by rw [HU2.out]; go_num, HS2.out⟩
    case measure => simp [intOf]; omega
   ·obtain rfl : k = ks.len := by omega
    have hlast : ¬ ((ks.len : Nat) : Int) < (ks.len : Int) := by omega
    go_wp2
    go_ret
    exact ⟨by rw [HV.out, Int.natCast_add]; rfl, HS.out.bel⟩
end Go.Proofs.Ytpbbokdmoaadfaa
