/- Classes: walked. -/
import Derived.Test.YtidoofdofdhjpaaM33
import Derived.Test.YtidoofdofdhjpaaM21
import Derived.Test.YtidoofdofdhjpaaM28
import Derived.Test.YtidoofdofdhjpaaM32
namespace Go.Proofs.Ytidoofdofdhjpaa
open Go Go.RowKit
set_option linter.unusedVariables false
set_option linter.unusedSimpArgs false
set_option maxRecDepth 100000
set_option maxHeartbeats 16000000
def hcL (l : List Nd) (L : Brs) : List (BitVec 256) := L.flatMap fun a => clT l a.1
theorem clT_len {l : List Nd} (s : List Itm) : (clT l s).length <= 256 := by
 cases s with
 | nil => unfold clT; simp
 | cons x r =>
  unfold clT
  simp only
  split
  ·simp
  ·split
   ·simp
   ·simp
theorem hc_len {l : List Nd} : ∀ L : Brs, (hcL l L).length <= L.length * 256
 | [] => Nat.zero_le _
 | a :: L => by
  have h1 := hc_len (l := l) L
  have h2 := clT_len (l := l) a.1
  unfold hcL at *
  rw [List.flatMap_cons, List.length_append, List.length_cons]; omega
theorem hc_app {l : List Nd} (L : Brs) (a : List Itm × Nat) : hcL l (L ++ [a]) = hcL l L ++ clT l a.1 := by unfold hcL; rw [List.flatMap_append]; simp
theorem ownC_lower {w : World} {base base' : Nat} {v : Value} {l : List (BitVec 256)} (h : OwnC w base v l) (hb : base' <= base) : OwnC w base' v l := by
 obtain ⟨h0, ⟨hv, hn⟩ | ⟨g, cap, cur, hv, hg, hr⟩⟩ := h
 ·exact ⟨h0, .inl ⟨hv, hn⟩⟩
 ·exact ⟨h0, .inr ⟨g, cap, cur, hv, Nat.le_trans hb hg, hr⟩⟩
structure NclS (w3 : World) (l : List Nd) (D : List HdE) (k : Nat) (v : Value) (w : World) : Prop where
 bel : Below w3.heap.size w3 w
 own : OwnC w w3.heap.size v (hcL l ((D.take k).map brS))
def NclL (w3 : World) (l : List Nd) (D : List HdE) (v i : Value) (w : World) : Prop := ∃ k : Nat, k <= D.length /\ i = .int .i64 (k : Int) /\ NclS w3 l D k v w
theorem NclS.later {w3 w w' : World} {l : List Nd} {D : List HdE} {k : Nat} {v : Value} (h : NclS w3 l D k v w) (hb : Below w.heap.size w w') : NclS w3 l D k v w' := ⟨h.bel.trans (hb.mono h.bel.size), h.own.later hb⟩
structure NcB (w0 : World) (A : Option Addr) (l : List Nd) (c : Nat) (AD : Option Addr) (D : List HdE) (w : World) : Prop where
 bel : Below w0.heap.size w0 w
 row : NRow w A l
 box : Blk w w0.heap.size #[.slice A l.length c] 24
 hds : BrRow w AD D
 ent : ∀ d ∈ D, ItRow w d.A d.s
theorem NcB.later {w0 w w' : World} {A : Option Addr} {l : List Nd} {c : Nat} {AD : Option Addr} {D : List HdE} (h : NcB w0 A l c AD D w) (hb : Below w.heap.size w w') : NcB w0 A l c AD D w' :=
 ⟨h.bel.trans (hb.mono h.bel.size), h.row.later hb, h.box.later hb, h.hds.later hb, fun d hd => (h.ent d hd).later hb⟩
structure NcR (w0 : World) (A : Option Addr) (l : List Nd) (c : Nat) (AD : Option Addr) (D : List HdE) (w3 : World) (k : Nat) (v : Value) (bx : Nat) (b : HdE) (w : World) : Prop where
 nb : NcB w0 A l c AD D w
 s : NclS w3 l D k v w
 bx : Blk w bx (brC b) 41
 it : ItRow w b.A b.s
theorem NcR.later {w0 w w' : World} {A : Option Addr} {l : List Nd} {c : Nat} {AD : Option Addr} {D : List HdE} {w3 : World} {k : Nat} {v : Value} {bx : Nat} {b : HdE} (h : NcR w0 A l c AD D w3 k v bx b w) (hb : Below w.heap.size w w') : NcR w0 A l c AD D w3 k v bx b w' :=
 ⟨h.nb.later hb, h.s.later hb, h.bx.later hb, h.it.later hb⟩
theorem nxClasses_any (l : List Nd) (A : Option Addr) (c : Nat) (s : List Itm) (B : Option Addr) (c2 : Nat) (hR : Rgt l) (hlen : l.length <= 300) (htx : Txt l) (hs : ∀ y ∈ s, HdF l y) (hsl : s.length <= 200) (w : World) (hrow : NRow w A l) (hss : ItRow w B s) :
 Calls Try.prog 11 #[.agg #[.slice A l.length c], .slice B s.length c2] w (ClsP (hcL l (hdsL l s)) w) := by
 have hb1 := (Below.refl w.heap.size w).alloc (Nat.le_refl _) (.cells #[.slice A l.length c] 24)
 have HBX := Lib.hid (Blk.new w #[.slice A l.length c] 24)
 have HB1 := Lib.hid hb1
 have HH := Lib.hid (hdHeads_any l A c s B c2 hR hlen htx hs hsl (w.alloc (.cells #[.slice A l.length c] 24)) (hrow.later hb1) (hss.later hb1))
 have HRW := Lib.hid (hrow.later hb1)
 have HHF : Hid (∀ a ∈ hdsL l s, (∀ y ∈ a.1, HdF l y) /\ rdyS l a.1 = true) := fun a ha => ⟨(hds_ok hR.1 hs ha).2.1, (hds_ok hR.1 hs ha).1⟩
 have HHL : Hid ((hdsL l s).length <= 200 * 300 + 1) := by
  have := hds_len hR hs
  have h2 : s.length * l.length <= 200 * 300 := Nat.mul_le_mul hsl hlen
  unfold Hid; omega
 have HCO : Hid (∀ (x : Itm), HdF l x -> rdyS l [x] = true -> ∀ w', NRow w' A l -> Calls Try.prog 31 #[.agg #[.slice A l.length c], .agg (itV x)] w' (NxRwP (clT l [x]) w')) := fun x h1 h2 w' h3 => nxCo_any l A c x hR.1.1 (by omega) htx h1 h2 w' h3
 clear hb1 hrow hss hs htx
 obtain ⟨T, hT⟩ : ∃ T, hdsL l s = T := ⟨_, rfl⟩
 unfold HdsP at HH
 rw [hT] at HHF HHL HH ⊢
 clear hT
 go_enter Try.func11, Try.ntmps11
 go_upto_region 1 with (fail)
 generalize w.alloc (.cells #[.slice A l.length c] 24) = w1 at *
 have e0 := HBX.out.cell 0
 simp at e0
 go_wp2_with fail
 refine HH.out.mono ?_; rintro e w3 ⟨vD, D, rfl, hbr, hoD, hoE, hb3, -⟩
 obtain ⟨AD, cD, rfl, -, hrD⟩ := hoD.row
 have HB3 := Lib.hid (HB1.out.trans (hb3.mono HB1.out.size))
 have HNB : Hid (NcB w A l c AD D w3) := ⟨HB3.out, HRW.out.later hb3, HBX.out.later hb3, hrD, fun d hd => (own_it (hoE d hd)).2⟩
 subst hbr
 have HDF : Hid (∀ d ∈ D, (∀ y ∈ d.s, HdF l y) /\ rdyS l d.s = true) := fun d hd => HHF.out (brS d) (List.mem_map_of_mem hd)
 have HDL : Hid (D.length <= 60001) := by have := HHL.out; rw [List.length_map] at this; exact this
 clear hoD hoE hb3 hrD e0 HHF HHL HB3 HRW HH HB1 HBX
 have HS0 : Hid (NclS w3 l D 0 (.slice none 0 0) w3) := ⟨Below.refl _ _, OwnC.nil _ _⟩
 have hdl : D.length <= 60001 := HDL.out
 go_wp2
 go_loopw [5, 12] (NclL w3 l D) (fun _ i _ => D.length - (intOf i).toNat)
 case atStart => exact ⟨0, Nat.zero_le _, rfl, HS0.out⟩
 case round =>
  obtain ⟨k, hk, rfl, hs⟩ := hrel
  have HS := Lib.hid hs
  clear hs HS0
  by_cases hlt : k < D.length
  ·have hltz : (k : Int) < (D.length : Int) := by omega
   have HNR := Lib.hid (HNB.out.later HS.out.bel)
   obtain ⟨bd, od, hA, hbd, hcd⟩ := HNR.out.hds k hlt
   subst hA
   obtain ⟨b, hb⟩ : ∃ b, D.getD k hd0 = b := ⟨_, rfl⟩
   rw [hb] at hcd
   have hbm : b ∈ D := by rw [<- hb, List.getD_eq_getElem?_getD, List.getElem?_eq_getElem hlt]; exact List.getElem_mem hlt
   have HBE : Hid (D[k]? = some b) := by rw [<- hb, List.getD_eq_getElem?_getD, List.getElem?_eq_getElem hlt]; rfl
   have d0 : wr.cell? ⟨bd, od + k * 2, none⟩ = some (.slice b.A b.s.length b.cap) := hcd 0 (by decide)
   have d1 : wr.cell? ⟨bd, od + k * 2 + 1, none⟩ = some (.int .i64 (b.many : Int)) := hcd 1 (by decide)
   have hbA := (Below.refl wr.heap.size wr).alloc (Nat.le_refl _) (.cells (brC b) 41)
   have HTK : Hid (hcL l ((D.take (k + 1)).map brS) = hcL l ((D.take k).map brS) ++ clT l b.s) := by
    unfold Hid
    rw [List.take_add_one, HBE.out, List.map_append]; exact hc_app _ _
   have HF := Lib.hid (HDF.out b hbm)
   have HRR : Hid (NcR w A l c (some ⟨bd, od, none⟩) D w3 k u5 wr.heap.size b (wr.alloc (.cells (brC b) 41))) := ⟨HNR.out.later hbA, HS.out.later hbA, Blk.new _ _ _, (HNR.out.ent b hbm).later hbA⟩
   have HLK : Hid ((hcL l ((D.take k).map brS)).length + (clT l b.s).length < 1073741824) := by
    have h1 := hc_len (l := l) ((D.take k).map brS)
    have h2 := clT_len (l := l) b.s
    rw [List.length_map, List.length_take] at h1
    have h3 : (min k D.length) * 256 <= 60001 * 256 := Nat.mul_le_mul_right _ (by omega)
    unfold Hid; omega
   clear hb hbm hcd hbA HBE HNR
   go_upto_region 5 with (fail)
   clear d0 d1
   unfold brC at HRR
   generalize wr.alloc (.cells #[.slice b.A b.s.length b.cap, .int .i64 (b.many : Int)] 41) = wA at *
   generalize wr.heap.size = bx at *
   have b0 := HRR.out.bx.cell 0
   simp [brC] at b0
   by_cases hne : b.s = []
   ·have hl0 : b.s.length = 0 := by rw [hne]; rfl
    have HNX : Hid (NclS w3 l D (k + 1) u5 wA) := ⟨HRR.out.s.bel, by rw [HTK.out, hne, show clT l [] = [] from rfl, List.append_nil]; exact HRR.out.s.own⟩
    rw [hl0] at b0
    clear hl0 hne HRR
    go_wp2
    go_roundw
    case rel => exact ⟨k + 1, hlt, by go_num, HNX.out⟩
    case measure => simp [intOf]; omega
   ·obtain ⟨x, r, hx⟩ := List.exists_cons_of_ne_nil hne
    have hfx : HdF l x := HF.out.1 x (by rw [hx]; exact List.mem_cons_self ..)
    have hrx : rdyS l [x] = true := by have := HF.out.2; rw [hx] at this; simpa [rdyS] using this
    have HCC := Lib.hid (fun w' h => HCO.out x hfx hrx w' h)
    have hct : clT l b.s = clT l [x] := by rw [hx]; rfl
    rw [hct] at HTK HLK
    obtain ⟨bb, ob, hbA, -, -⟩ := HRR.out.it 0 (by rw [hx]; simp)
    have HAT : Hid (∀ w', ItRow w' b.A b.s -> At4 w' bb ob x) := fun w' h => by
     have h1 := h.at (i := 0) (by rw [hx]; simp) hbA
     rw [hx] at h1
     simpa using h1
    obtain ⟨n, hn⟩ : ∃ n, b.s.length = n := ⟨_, rfl⟩
    have hn0 : 0 < n := by rw [<- hn, hx]; simp
    have hnz : (0 : Int) < (n : Int) := by omega
    have hng : decide ((n : Int) > 0) = true := by rw [decide_eq_true_iff]; omega
    have hng2 : (n : Int) > 0 := by omega
    rw [hn, hbA] at b0
    have HB0 : Hid (∀ w', Blk w' bx (brC b) 41 -> w'.cell? ⟨bx, 0, none⟩ = some (.slice (some ⟨bb, ob, none⟩) n b.cap)) := fun w' h => by
     have := h.cell 0
     rw [this]; unfold brC; rw [hn, hbA]; rfl
    unfold itV at HCC
    unfold At4 at HAT
    obtain ⟨kk, nn, lo, hi⟩ := x
    simp only at HCC HAT
    generalize clT l [⟨kk, nn, lo, hi⟩] = R at *
    generalize hcu : hcL l ((D.take k).map brS) = cur at *
    have HCU := Lib.hid hcu
    clear hcu
    clear hfx hrx hct hbA hn hx hne HF
    go_upto_region 6 with (fail)
    clear b0
    refine wp_region_stable_two (S := (NcR w A l c (some ⟨bd, od, none⟩) D w3 k u5 bx b)) (hSt := fun _ _ h hb => h.later hb) (plan := [[(5, none)], [(2, none)], [(7, none)], [(22, some 2)], [(23, some 3)], [(24, some 4)], [(21, some 1), (25, some 5)]]) rfl rfl (by kernel_rfl) (by kernel_rfl) (by kernel_rfl) (by kernel_rfl) ?hS ?_
    rotate_left
    simp only [List.dropLast]
    iterate 6 first
     | (refine chain_skip (by rfl) (by rfl) ?_)
     | (apply chain_want (by rfl)
        ·intro act wx hS hr
         simp at hr
         have e0 := hS.nb.box.cell 0
         simp at e0
         have b0 := HB0.out _ hS.bx
         obtain ⟨x0, x1, x2, x3⟩ := HAT.out _ hS.it
         go_simp
         (try go_ints)
         first
          | exact Done.same (v := .agg #[.int .i64 kk, .int .i64 nn, .int .i64 lo, .int .i64 hi])
          | exact Done.same
       )
    (refine chain_rel (IsRow R) (IsRow.later R) (by rfl) ?_ ?_
     ·intro act wx hS hr
      simp at hr
      have e0 := hS.nb.box.cell 0
      simp at e0
      have b0 := HB0.out _ hS.bx
      obtain ⟨x0, x1, x2, x3⟩ := HAT.out _ hS.it
      all_goals go_simp
      ((refine (HCC.out _ hS.nb.row).mono ?_); rintro e w' ⟨v9, rfl, hv, hb⟩; exact Done.rel (p := IsRow R) hb hv)
    )
    show ∀ w', _ -> _
    intro wz hz
    simp [Act.put]
    case hS => exact HRR.out
    intro v6 hv6
    obtain ⟨A6, c6, rfl, hr6⟩ := hv6
    have ho6 := hz.s.own
    rw [HCU.out] at ho6
    refine wp_append_clsL _ _ rfl w3.heap.size u5 cur rfl ho6 A6 c6 R rfl hr6 HLK.out hz.s.bel.size ?_
    intro v7 w7 q1 q2
    have HNX : Hid (NclS w3 l D (k + 1) v7 w7) := ⟨hz.s.bel.grown q2 hz.s.bel.size (fun q hq => (World.ownsRow.lt hz.s.own q hq).1), by rw [HTK.out]; exact q1⟩
    clear q1 q2 hz ho6 hr6 HRR
    go_simp
    go_wp2
    go_roundw
    case rel => exact ⟨k + 1, hlt, by go_num, HNX.out⟩
    case measure => simp [intOf]; omega
  ·obtain rfl : k = D.length := by omega
   have hltz : ¬ ((D.length : Nat) : Int) < (D.length : Int) := by omega
   have HP : Hid (ClsP (hcL l (D.map brS)) w (.returned u5) wr) := by
    refine ⟨u5, rfl, ?_, HNB.out.bel.trans (HS.out.bel.mono HNB.out.bel.size)⟩
    have h1 := HS.out.own
    rw [List.take_length] at h1
    exact ownC_lower h1 HNB.out.bel.size
   clear HS hlt
   go_wp2
   go_ret
   exact HP.out
end Go.Proofs.Ytidoofdofdhjpaa
namespace Go.Proofs.Ytidoofdofdhjpaa
open Go Go.RowKit
set_option linter.unusedVariables false
set_option linter.unusedSimpArgs false
theorem sm_one {n : Nd} (h : okN [n] 0 n) (hk : leafK n.kind) (ht : n.text.length <= 281474976710656) : Sm [n] := by
 refine ⟨⟨by simp, fun i hi => ?_, ?_⟩, by simp, fun m hm => ?_⟩
 ·obtain rfl : i = 0 := by simpa using hi
  exact h
 ·show firstP [n] 0 = 0
  have := firstP_le [n] 0; omega
 ·rw [List.mem_singleton.1 hm]; exact ht
structure Dx (b : Nat) (A : Option Addr) (l : List Nd) (n c : Nat) (w : World) : Prop where
 cap : l.length <= c
 len : l.length = n
 box : Blk w b #[.slice A n c] 24
 row : NRow w A l
theorem Dx.later {b : Nat} {A : Option Addr} {l : List Nd} {n c : Nat} {w w' : World} (h : Dx b A l n c w) (hb : Below w.heap.size w w') : Dx b A l n c w' := ⟨h.cap, h.len, h.box.later hb, h.row.later hb⟩
theorem Dx.isD {b : Nat} {A : Option Addr} {l : List Nd} {n c : Nat} {w : World} (h : Dx b A l n c w) : IsD l (.agg #[.slice A n c]) w := ⟨A, c, h.cap, by rw [h.len], h.row⟩
theorem Dx.load {b : Nat} {A : Option Addr} {l : List Nd} {n c : Nat} {w : World} (h : Dx b A l n c w) : w.cell? ⟨b, 0, none⟩ = some (.slice A n c) := by
 have := h.box.cell 0; simpa using this
theorem nrow_one {n : Nd} {b : Nat} {w : World} (h : Blk w b (ndC n) 58) : NRow w (some ⟨b, 0, none⟩) [n] := fun i hi => by
 obtain rfl : i = 0 := by simpa using hi
 exact ⟨b, 0, rfl, h.lt, fun j _ => by rw [h.cell]; simp⟩
theorem dx_one (n : Nd) (w : World) {cs : Array Value} (hc : ndC n = cs) : Dx (w.heap.size + 1) (some ⟨w.heap.size, 0, none⟩) [n] 1 1 ((w.alloc (.cells cs 58)).alloc (.cells #[.slice (some ⟨w.heap.size, 0, none⟩) 1 1] 24)) /\ Below w.heap.size w ((w.alloc (.cells cs 58)).alloc (.cells #[.slice (some ⟨w.heap.size, 0, none⟩) 1 1] 24)) := by
 subst hc
 exact ⟨⟨by simp, rfl, Blk.new' (by simp) _ _, nrow_one ((Blk.new w _ _).alloc _)⟩, ((Below.refl w.heap.size w).alloc (Nat.le_refl _) _).alloc (by simp) _⟩
theorem dx_of {l : List Nd} {w : World} {A : Option Addr} {n c : Nat} (hr : NRow w A l) (hl : l.length = n) (hc : n <= c) : Dx w.heap.size A l n c (w.alloc (.cells #[.slice A n c] 24)) :=
 ⟨by omega, hl, Blk.new w _ _, hr.later ((Below.refl w.heap.size w).alloc (Nat.le_refl _) _)⟩
set_option maxRecDepth 100000
set_option maxHeartbeats 16000000
theorem brs_known {T : Brs} {n : Nat} {w w' : World} {e : Ending} (hn : n <= 1000) (h : BrsP T n w e w') : ∃ v, e = .returned v /\ BrV T v w' /\ Below w.heap.size w w' := by
 obtain ⟨v, D, rfl, h1, h2, h3, h4⟩ := h
 obtain ⟨A, cap, rfl, -, hr⟩ := h2.row
 exact ⟨_, rfl, ⟨A, cap, D, rfl, h1, hr, fun d hd => ⟨(own_it (h3 d hd).1).1, Nat.le_trans (h3 d hd).2 hn⟩, fun d hd => (own_it (h3 d hd).1).2⟩, h4⟩
def NeV (b : Bool) (v : Value) (w : World) : Prop := ∃ A c, v = .tuple #[.slice A 0 c, .bool b]
theorem NeV.later (b : Bool) (v : Value) (w w' : World) (h : NeV b v w) (hb : Below w.heap.size w w') : NeV b v w' := h
def NlV (n : Nat) (v : Value) (w : World) : Prop := ∃ A c, v = .slice A n c
theorem NlV.later (n : Nat) (v : Value) (w w' : World) (h : NlV n v w) (hb : Below w.heap.size w w') : NlV n v w' := h
theorem rd_none {o : Option (List Itm)} {w w' : World} {e : Ending} (ho : o = none \/ o = some []) (h : NrdP o w e w') : ∃ v, e = .returned v /\ NeV o.isSome v w' /\ Below w.heap.size w w' := by
 obtain ⟨v, rfl, hb, h1, h2⟩ := h
 rcases ho with rfl | rfl
 ·rw [h2 rfl]; exact ⟨_, rfl, ⟨none, 0, rfl⟩, hb⟩
 ·obtain ⟨A, c, rfl, -, -⟩ := (h1 [] rfl).row
  exact ⟨_, rfl, ⟨A, c, rfl⟩, hb⟩
theorem cls_known {L : List (BitVec 256)} {w w' : World} {e : Ending} (h : ClsP L w e w') : ∃ v, e = .returned v /\ IsRow L v w' /\ Below w.heap.size w w' := by
 obtain ⟨v, rfl, h1, h2⟩ := h
 exact ⟨v, rfl, h1.isRow, h2⟩
def nwBn : Nd := { kind := 2, cls := rowB 5 6 }
def nwB : List Nd := [nwBn]
def nwO : List Nd := pairL 5 nwB nwB
def nwF : List Nd := wrapL 8 0 0 nwB
theorem nwB_sm : Sm nwB := sm_one ⟨rfl, .inr (.inl rfl)⟩ (.inr (.inl rfl)) (by decide)
theorem nwO_form : Form nwO := pair_form nwB_sm.form nwB_sm.form (.inr rfl)
theorem nwF_sm : Sm nwF := nwB_sm.wrap (by decide) (.inr (.inl rfl))
theorem nw_rgt {l : List Nd} (hF : Form l) (h : (fstW l).2 = false) : Rgt l := by
 refine (rgB_iff l).1 ?_
 unfold rgB
 rw [(formB_iff l).2 hF, h]; rfl
theorem nwB_rgt : Rgt nwB := nw_rgt nwB_sm.form (by decide)
theorem nwO_rgt : Rgt nwO := nw_rgt nwO_form (by decide)
theorem nwF_rgt : Rgt nwF := nw_rgt nwF_sm.form (by decide)
theorem nwB_txt : Txt nwB := fun n hn => by
 rw [List.mem_singleton.1 hn]; decide
theorem nwO_txt : Txt nwO := fun n hn => by
 have : n.text = [] := by
  unfold nwO pairL nwB nwBn at hn; simp at hn; rcases hn with rfl | rfl | rfl <;> rfl
 rw [this]; simp
theorem nwF_txt : Txt nwF := fun n hn => by
 have : n.text = [] := by
  unfold nwF wrapL nwB nwBn at hn; simp at hn; rcases hn with rfl | rfl <;> rfl
 rw [this]; simp
theorem nw_o : brsL (onL nwO (stL nwO) 5) = [([], 2)] := by decide +kernel
theorem nw_f : brsL (onL nwF (stL nwF) 7) = [([⟨1, 0, 0, 0⟩, ⟨5, 0, 7, 0⟩], 1)] := by decide +kernel
theorem nw_r6 : rdS nwB (stL nwB) 6 = some [] := by decide +kernel
theorem nw_r7 : rdS nwB (stL nwB) 7 = none := by decide +kernel
theorem nw_rs : rdS nwB [⟨1, 0, 0, 0⟩, ⟨5, 0, 0, 0⟩] 5 = none := by decide +kernel
theorem nw_e0 : mnyB (hdsL nwB []) [] = 1 := by decide +kernel
theorem nw_es : mnyB (hdsL nwB (stL nwB)) [] = 0 := by decide +kernel
theorem nw_cb : (hcL nwB (hdsL nwB (stL nwB))).length = 1 := by decide +kernel
theorem nw_cf : (hcL nwF (hdsL nwF (stL nwF))).length = 256 := by decide +kernel
theorem nw_rdy : rdyS nwB (stL nwB) = true := by decide +kernel
theorem nw_rdy2 : rdyS nwB [⟨1, 0, 0, 0⟩, ⟨5, 0, 0, 0⟩] = true := by decide +kernel
theorem nw_form : ∀ y ∈ [(⟨1, 0, 0, 0⟩ : Itm), ⟨5, 0, 0, 0⟩], HdF nwB y := stF_form (by decide +kernel)
theorem start15_any (l : List Nd) (A : Option Addr) (c : Nat) (hl : l.length <= 1073741824) (w : World) :
 Calls Try.prog 21 #[.agg #[.slice A l.length c]] w (fun e w' => ∃ v, e = .returned v /\ StV (stL l) v w' /\ Below w.heap.size w w') := by
 have hb1 := (Below.refl w.heap.size w).alloc (Nat.le_refl _) (.cells #[.slice A l.length c] 24)
 have HK := Lib.hid (Blk.new w #[.slice A l.length c] 24)
 have HB := Lib.hid hb1
 clear hb1
 go_enter Try.func21, Try.ntmps21
 go_upto_region 1 with (fail)
 generalize w.alloc (.cells #[.slice A l.length c] 24) = w1 at *
 have e0 := HK.out.cell 0
 simp at e0
 have hbb := (Below.refl w1.heap.size w1).alloc (Nat.le_refl _) (.cells (itV ⟨1, (l.length : Int) - 1, 0, 0⟩) 44)
 have HN := Lib.hid (ItRow.one (p := ⟨1, (l.length : Int) - 1, 0, 0⟩) (Blk.new w1 (itV ⟨1, (l.length : Int) - 1, 0, 0⟩) 44))
 have HB2 := Lib.hid (HB.out.trans (hbb.mono HB.out.size))
 clear hbb
 go_wp2
 go_ret
 exact ⟨_, rfl, ⟨_, 1, rfl, by unfold stL; simp, HN.out⟩, HB2.out⟩
end Go.Proofs.Ytidoofdofdhjpaa
namespace Go.Proofs.Ytidoofdofdhjpaa
open Go Go.RowKit
set_option linter.unusedVariables false
set_option linter.unusedSimpArgs false
set_option maxRecDepth 100000
theorem one_br {D : List HdE} {s : List Itm} {m : Nat} (h : D.map brS = [(s, m)]) : ∃ A1 c1, D = [⟨s, A1, c1, m⟩] := by
 match D, h with
 | [⟨a, A1, c1, x⟩], h =>
  simp [brS] at h
  obtain ⟨rfl, rfl⟩ := h
  exact ⟨A1, c1, rfl⟩
theorem br_cell {w : World} {b off : Nat} {D : List HdE} (h : BrRow w (some ⟨b, off, none⟩) D) (i : Nat) (d : HdE) (hi : D[i]? = some d) : w.cell? ⟨b, off + i * 2, none⟩ = some (.slice d.A d.s.length d.cap) /\ w.cell? ⟨b, off + i * 2 + 1, none⟩ = some (.int .i64 (d.many : Int)) := by
 obtain ⟨hlt, he⟩ := List.getElem?_eq_some_iff.1 hi
 obtain ⟨b', off', ha, -, hc⟩ := h i hlt
 cases ha
 have hd : D.getD i hd0 = d := by rw [List.getD_eq_getElem?_getD, hi]; rfl
 rw [hd] at hc
 exact ⟨hc 0 (by decide), hc 1 (by decide)⟩
structure AxS (w0 : World) (bb : Nat) (Ab : Option Addr) (bo : Nat) (Ao : Option Addr) (co : Nat) (bf : Nat) (Af : Option Addr) (cf : Nat) (P : World -> Prop) (w : World) : Prop where
 bel : Below w0.heap.size w0 w
 b : Dx bb Ab nwB 1 1 w
 o : Dx bo Ao nwO 3 co w
 f : Dx bf Af nwF 2 cf w
 p : P w
 pl : ∀ w w', P w -> Below w.heap.size w w' -> P w'
theorem AxS.later {w0 w w' : World} {bb : Nat} {Ab : Option Addr} {bo : Nat} {Ao : Option Addr} {co : Nat} {bf : Nat} {Af : Option Addr} {cf : Nat} {P : World -> Prop} (h : AxS w0 bb Ab bo Ao co bf Af cf P w) (hb : Below w.heap.size w w') : AxS w0 bb Ab bo Ao co bf Af cf P w' :=
 ⟨h.bel.trans (hb.mono h.bel.size), h.b.later hb, h.o.later hb, h.f.later hb, h.pl _ _ h.p hb, h.pl⟩
theorem AxS.add {w0 w : World} {bb : Nat} {Ab : Option Addr} {bo : Nat} {Ao : Option Addr} {co : Nat} {bf : Nat} {Af : Option Addr} {cf : Nat} {P Q : World -> Prop} (h : AxS w0 bb Ab bo Ao co bf Af cf P w) (hq : Q w) (hl : ∀ w w', Q w -> Below w.heap.size w w' -> Q w') : AxS w0 bb Ab bo Ao co bf Af cf (fun w => P w /\ Q w) w :=
 ⟨h.bel, h.b, h.o, h.f, ⟨h.p, hq⟩, fun w w' k hb => ⟨h.pl w w' k.1 hb, hl w w' k.2 hb⟩⟩
set_option maxHeartbeats 16000000 in
set_option maxRecDepth 1000000 in
theorem awake15_any (w : World) : Calls Try.prog 7 #[] w (Ans w (.bool true)) := by
 have CR : Hid (Calls Try.prog 25 #[.int .u8 5, .int .u8 6] w (Ans w (cls (rowB 5 6)))) := refrow_any 5 6 (by omega) (by omega) w
 unfold cls at CR
 have hnd : ndC nwBn = #[.int .i64 2, .int .i64 0, .int .i64 0, .int .i64 0, .int .i64 0, .int .u64 (wd (rowB 5 6) 0), .int .u64 (wd (rowB 5 6) 1), .int .u64 (wd (rowB 5 6) 2), .int .u64 (wd (rowB 5 6) 3), .string ⟨#[]⟩] := rfl
 generalize wd (rowB 5 6) 0 = k0 at *
 generalize wd (rowB 5 6) 1 = k1 at *
 generalize wd (rowB 5 6) 2 = k2 at *
 generalize wd (rowB 5 6) 3 = k3 at *
 go_enter Try.func7, Try.ntmps7
 go_wp2_with fail
 refine CR.out.mono ?_; rintro e w0 ⟨rfl, hb0⟩
 have HB0 := Lib.hid hb0
 clear hb0 CR
 go_upto_region 2 with (fail)
 obtain ⟨ht, hb1⟩ := dx_one nwBn w0 hnd
 have HD : Hid (Dx (w0.heap.size + 1) (some ⟨w0.heap.size, 0, none⟩) nwB 1 1 _) := ht
 have HB2 := Lib.hid (HB0.out.trans (hb1.mono HB0.out.size))
 clear ht hb1 hnd HB0
 generalize (w0.alloc (.cells #[.int .i64 2, .int .i64 0, .int .i64 0, .int .i64 0, .int .i64 0, .int .u64 k0, .int .u64 k1, .int .u64 k2, .int .u64 k3, .string ⟨#[]⟩] 58)).alloc (.cells #[.slice (some ⟨w0.heap.size, 0, none⟩) 1 1] 24) = w1 at *
 generalize w0.heap.size + 1 = bb at *
 generalize (some ⟨w0.heap.size, 0, none⟩ : Option Addr) = Ab at *
 have e0 := HD.out.load
 have CALL := Lib.hid (HD.out.isD.rpair HD.out.isD nwB_sm nwB_sm 5)
 go_wp2_with fail
 refine CALL.out.mono ?_; intro e v hp; obtain ⟨s, rfl, ho, hb⟩ := hp
 obtain ⟨Ao, co, hc, hv, hr⟩ := ho.isD
 have el : (pairL 5 nwB nwB).length = 3 := rfl
 rw [el] at hc hv
 obtain rfl : s = .slice Ao 3 co := by simpa using hv
 have hbb := hb.trans ((Below.refl _ _).alloc hb.size (.cells #[.slice Ao 3 co] 24))
 have HO : Hid (Dx v.heap.size Ao nwO 3 co _) := dx_of hr el hc
 have HD2 := Lib.hid (HD.out.later hbb)
 have B3 := Lib.hid (HB2.out.trans (hbb.mono HB2.out.size))
 clear HD HB2 CALL hb ho hr hv hc e0 el hbb
 go_upto_region 3 with (fail)
 generalize v.alloc (.cells #[.slice Ao 3 co] 24) = w3 at *
 generalize v.heap.size = bo at *
 have e0 := HD2.out.load
 have CALL := Lib.hid (HD2.out.isD.rwrap nwB_sm 8 0 0)
 go_wp2_with fail
 refine CALL.out.mono ?_; intro e v hp; obtain ⟨s, rfl, ho, hb⟩ := hp
 obtain ⟨Af, cf, hc, hv, hr⟩ := ho.isD
 have el : (wrapL 8 0 0 nwB).length = 2 := rfl
 rw [el] at hc hv
 obtain rfl : s = .slice Af 2 cf := by simpa using hv
 have hbb := hb.trans ((Below.refl _ _).alloc hb.size (.cells #[.slice Af 2 cf] 24))
 have HF : Hid (Dx v.heap.size Af nwF 2 cf _) := dx_of hr el hc
 have HD3 := Lib.hid (HD2.out.later hbb)
 have HO3 := Lib.hid (HO.out.later hbb)
 have B4 := Lib.hid (B3.out.trans (hbb.mono B3.out.size))
 clear HD2 HO B3 CALL hb ho hr hv hc e0 el hbb
 go_upto_region 4 with (fail)
 generalize v.alloc (.cells #[.slice Af 2 cf] 24) = w4 at *
 generalize v.heap.size = bf at *
 have HS : Hid (AxS w bb Ab bo Ao co bf Af cf (fun _ => True) w4) := ⟨B4.out, HD3.out, HO3.out, HF.out, trivial, fun _ _ _ _ => trivial⟩
 clear B4 HD3 HO3 HF
 have HSB : Hid (∀ w', Calls Try.prog 21 #[.agg #[.slice Ab 1 1]] w' (fun e w'' => ∃ v, e = .returned v /\ StV (stL nwB) v w'' /\ Below w'.heap.size w' w'')) := fun w' => start15_any nwB Ab 1 (by decide) w'
 have HSO : Hid (∀ w', Calls Try.prog 21 #[.agg #[.slice Ao 3 co]] w' (fun e w'' => ∃ v, e = .returned v /\ StV (stL nwO) v w'' /\ Below w'.heap.size w' w'')) := fun w' => start15_any nwO Ao co (by decide) w'
 have HSF : Hid (∀ w', Calls Try.prog 21 #[.agg #[.slice Af 2 cf]] w' (fun e w'' => ∃ v, e = .returned v /\ StV (stL nwF) v w'' /\ Below w'.heap.size w' w'')) := fun w' => start15_any nwF Af cf (by decide) w'
 have HNO : Hid (∀ w' B k, NRow w' Ao nwO -> ItRow w' B (stL nwO) -> Calls Try.prog 14 #[.agg #[.slice Ao 3 co], .slice B (stL nwO).length k, .int .u8 5] w' (fun e w'' => ∃ v, e = .returned v /\ BrV [([], 2)] v w'' /\ Below w'.heap.size w' w'')) := fun w' B k h1 h2 => (nxOn_any nwO Ao co (stL nwO) B k 5 nwO_rgt (by decide) nwO_txt (st_form (by decide)) (by decide) w' h1 h2).mono fun e w'' h => by
  have := brs_known (by decide) h; rw [nw_o] at this; exact this
 have HNF : Hid (∀ w' B k, NRow w' Af nwF -> ItRow w' B (stL nwF) -> Calls Try.prog 14 #[.agg #[.slice Af 2 cf], .slice B (stL nwF).length k, .int .u8 7] w' (fun e w'' => ∃ v, e = .returned v /\ BrV [([⟨1, 0, 0, 0⟩, ⟨5, 0, 7, 0⟩], 1)] v w'' /\ Below w'.heap.size w' w'')) := fun w' B k h1 h2 => (nxOn_any nwF Af cf (stL nwF) B k 7 nwF_rgt (by decide) nwF_txt (st_form (by decide)) (by decide) w' h1 h2).mono fun e w'' h => by
  have := brs_known (by decide) h; rw [nw_f] at this; exact this
 have HIB : Hid (∀ {q : List Itm}, (∀ y ∈ q, HdF nwB y) -> ItOk q) := fun {q} hq => hd_itok nwB_sm.form (by decide) nwB_txt hq
 have HR6 : Hid (∀ w' B k, (stL nwB).length <= k -> NRow w' Ab nwB -> ItRow w' B (stL nwB) -> Calls Try.prog 18 #[.agg #[.slice Ab 1 1], .slice B (stL nwB).length k, .int .u8 6] w' (fun e w'' => ∃ v, e = .returned v /\ NeV true v w'' /\ Below w'.heap.size w' w'')) := fun w' B k hk h1 h2 => (nxRead_any nwB Ab 1 (stL nwB) B k 6 (by decide) (by decide) nwB_txt (st_form (by decide)) nw_rdy (by decide) hk (HIB.out (st_form (by decide))) w' h1 h2).mono fun e w'' h => by
  have := rd_none (.inr nw_r6) h; rw [nw_r6] at this; exact this
 have HR7 : Hid (∀ w' B k, (stL nwB).length <= k -> NRow w' Ab nwB -> ItRow w' B (stL nwB) -> Calls Try.prog 18 #[.agg #[.slice Ab 1 1], .slice B (stL nwB).length k, .int .u8 7] w' (fun e w'' => ∃ v, e = .returned v /\ NeV false v w'' /\ Below w'.heap.size w' w'')) := fun w' B k hk h1 h2 => (nxRead_any nwB Ab 1 (stL nwB) B k 7 (by decide) (by decide) nwB_txt (st_form (by decide)) nw_rdy (by decide) hk (HIB.out (st_form (by decide))) w' h1 h2).mono fun e w'' h => by
  have := rd_none (.inl nw_r7) h; rw [nw_r7] at this; exact this
 have HR8 : Hid (∀ w' B, NRow w' Ab nwB -> ItRow w' B [⟨1, 0, 0, 0⟩, ⟨5, 0, 0, 0⟩] -> Calls Try.prog 18 #[.agg #[.slice Ab 1 1], .slice B 2 2, .int .u8 5] w' (fun e w'' => ∃ v, e = .returned v /\ NeV false v w'' /\ Below w'.heap.size w' w'')) := fun w' B h1 h2 => (nxRead_any nwB Ab 1 [⟨1, 0, 0, 0⟩, ⟨5, 0, 0, 0⟩] B 2 5 (by decide) (by decide) nwB_txt nw_form nw_rdy2 (by decide) (by decide) (HIB.out nw_form) w' h1 h2).mono fun e w'' h => by
  have := rd_none (.inl nw_rs) h; rw [nw_rs] at this; exact this
 refine wp_region_stable (S := (AxS w bb Ab bo Ao co bf Af cf (fun _ => True))) (hSt := fun _ _ h hb => h.later hb) (plan := [[(2, none)], [(2, none)], [(22, some 1)], [(21, some 0), (23, some 2)], [(24, some 3)]]) (by kernel_rfl) (by kernel_rfl) (by kernel_rfl) ?hS ?_
 rotate_left
 iterate 2 first
  | (refine chain_skip (by rfl) (by rfl) ?_)
  | (apply chain_want (by rfl)
     ·intro act wx hS hr
      simp at hr
      have e0 := hS.o.load
      go_simp
      (try go_ints)
      first
       | exact Done.same
    )
 (refine chain_rel (StV (stL nwO)) (StV.later (stL nwO)) (by rfl) ?_ ?_
  ·intro act wx hS hr
   simp at hr
   have e0 := hS.o.load
   all_goals go_simp
   with_reducible refine Calls.mono (HSO.out _) ?_
   rintro e w' ⟨v, rfl, hv, hb⟩
   exact Done.rel hb hv
 )
 (refine chain_rel (BrV [([], 2)]) (BrV.later [([], 2)]) (by rfl) ?_ ?_
  ·intro act wx hS hr
   simp at hr
   have e0 := hS.o.load
   obtain ⟨hr1, u2, hr2, B2, k2, rfl, hk2, hq2⟩ := hr
   all_goals go_simp
   with_reducible refine Calls.mono (HNO.out _ B2 k2 hS.o.row hq2) ?_
   rintro e w' ⟨v, rfl, hv, hb⟩
   exact Done.rel hb hv
 )
 (refine chain_rel (BrV [([], 2)]) (BrV.later [([], 2)]) (by rfl) ?_ ?_
  ·intro act wx hS hr
   simp at hr
   have e0 := hS.o.load
   obtain ⟨u3, hr3, hv3⟩ := hr
   all_goals go_simp
   exact Done.rel (Below.refl _ _) hv3
 )
 show ∀ w', _ -> _
 intro wz hz
 simp [Act.put]
 case hS => exact HS.out
 intro _ _ _ _ v4 hv4
 have HS2 := Lib.hid (hz.add hv4 (BrV.later [([], 2)] v4))
 clear hz hv4 HS
 have HS := HS2
 clear HS2
 go_upto_region 5 with (fail)
 refine wp_region_stable (S := (AxS w bb Ab bo Ao co bf Af cf (fun w => True /\ BrV [([], 2)] v4 w))) (hSt := fun _ _ h hb => h.later hb) (plan := [[(3, none)], [(3, none)], [(26, some 1)], [(25, some 0), (27, some 2)], [(28, some 3)]]) (by kernel_rfl) (by kernel_rfl) (by kernel_rfl) ?hS ?_
 rotate_left
 iterate 2 first
  | (refine chain_skip (by rfl) (by rfl) ?_)
  | (apply chain_want (by rfl)
     ·intro act wx hS hr
      simp at hr
      have e0 := hS.f.load
      go_simp
      (try go_ints)
      first
       | exact Done.same
    )
 (refine chain_rel (StV (stL nwF)) (StV.later (stL nwF)) (by rfl) ?_ ?_
  ·intro act wx hS hr
   simp at hr
   have e0 := hS.f.load
   all_goals go_simp
   with_reducible refine Calls.mono (HSF.out _) ?_
   rintro e w' ⟨v, rfl, hv, hb⟩
   exact Done.rel hb hv
 )
 (refine chain_rel (BrV [([⟨1, 0, 0, 0⟩, ⟨5, 0, 7, 0⟩], 1)]) (BrV.later [([⟨1, 0, 0, 0⟩, ⟨5, 0, 7, 0⟩], 1)]) (by rfl) ?_ ?_
  ·intro act wx hS hr
   simp at hr
   have e0 := hS.f.load
   obtain ⟨hr1, u2, hr2, B2, k2, rfl, hk2, hq2⟩ := hr
   all_goals go_simp
   with_reducible refine Calls.mono (HNF.out _ B2 k2 hS.f.row hq2) ?_
   rintro e w' ⟨v, rfl, hv, hb⟩
   exact Done.rel hb hv
 )
 (refine chain_rel (BrV [([⟨1, 0, 0, 0⟩, ⟨5, 0, 7, 0⟩], 1)]) (BrV.later [([⟨1, 0, 0, 0⟩, ⟨5, 0, 7, 0⟩], 1)]) (by rfl) ?_ ?_
  ·intro act wx hS hr
   simp at hr
   have e0 := hS.f.load
   obtain ⟨u3, hr3, hv3⟩ := hr
   all_goals go_simp
   exact Done.rel (Below.refl _ _) hv3
 )
 show ∀ w', _ -> _
 intro wz hz
 simp [Act.put]
 case hS => exact HS.out
 intro _ _ _ _ v5 hv5
 have HS2 := Lib.hid (hz.add hv5 (BrV.later [([⟨1, 0, 0, 0⟩, ⟨5, 0, 7, 0⟩], 1)] v5))
 clear hz hv5 HS
 have HS := HS2
 clear HS2
 go_upto_region 6 with (fail)
 refine wp_region_stable (S := (AxS w bb Ab bo Ao co bf Af cf (fun w => (True /\ BrV [([], 2)] v4 w) /\ BrV [([⟨1, 0, 0, 0⟩, ⟨5, 0, 7, 0⟩], 1)] v5 w))) (hSt := fun _ _ h hb => h.later hb) (plan := [[(1, none)], [(1, none)], [(31, some 1)], [(30, some 0), (32, some 2)], [(33, some 3)], [(29, some 4)], [(29, some 4)], [(34, some 5)], [(35, some 6)]]) (by kernel_rfl) (by kernel_rfl) (by kernel_rfl) ?hS ?_
 rotate_left
 iterate 2 first
  | (refine chain_skip (by rfl) (by rfl) ?_)
  | (apply chain_want (by rfl)
     ·intro act wx hS hr
      simp at hr
      have e0 := hS.b.load
      go_simp
      (try go_ints)
      first
       | exact Done.same
    )
 (refine chain_rel (StV (stL nwB)) (StV.later (stL nwB)) (by rfl) ?_ ?_
  ·intro act wx hS hr
   simp at hr
   have e0 := hS.b.load
   all_goals go_simp
   with_reducible refine Calls.mono (HSB.out _) ?_
   rintro e w' ⟨v, rfl, hv, hb⟩
   exact Done.rel hb hv
 )
 (refine chain_rel (NeV true) (NeV.later true) (by rfl) ?_ ?_
  ·intro act wx hS hr
   simp at hr
   have e0 := hS.b.load
   obtain ⟨hr1, u2, hr2, B2, k2, rfl, hk2, hq2⟩ := hr
   all_goals go_simp
   with_reducible refine Calls.mono (HR6.out _ B2 k2 hk2 hS.b.row hq2) ?_
   rintro e w' ⟨v, rfl, hv, hb⟩
   exact Done.rel hb hv
 )
 (refine chain_rel (NeV true) (NeV.later true) (by rfl) ?_ ?_
  ·intro act wx hS hr
   simp at hr
   have e0 := hS.b.load
   obtain ⟨u3, hr, A3, c3, rfl⟩ := hr
   all_goals go_simp
   exact Done.rel (p := NeV true) (Below.refl _ _) ⟨_, _, rfl⟩
 )
 (refine chain_rel (NlV 0) (NlV.later 0) (by rfl) ?_ ?_
  ·intro act wx hS hr
   simp at hr
   have e0 := hS.b.load
   obtain ⟨u3, hr, A3, c3, rfl⟩ := hr
   all_goals go_simp
   exact Done.rel (p := NlV 0) (Below.refl _ _) ⟨_, _, rfl⟩
 )
 (refine chain_rel (NbV true) (NbV.later true) (by rfl) ?_ ?_
  ·intro act wx hS hr
   simp at hr
   have e0 := hS.b.load
   obtain ⟨u3, hr, A3, c3, rfl⟩ := hr
   all_goals go_simp
   exact Done.rel (p := NbV true) (Below.refl _ _) rfl
 )
 (refine chain_rel (NlV 0) (NlV.later 0) (by rfl) ?_ ?_
  ·intro act wx hS hr
   simp at hr
   have e0 := hS.b.load
   obtain ⟨u3, hr, A3, c3, rfl⟩ := hr
   all_goals go_simp
   exact Done.rel (p := NlV 0) (Below.refl _ _) ⟨_, _, rfl⟩
 )
 (refine chain_rel (NbV true) (NbV.later true) (by rfl) ?_ ?_
  ·intro act wx hS hr
   simp at hr
   have e0 := hS.b.load
   obtain ⟨u3, hr, rfl⟩ := hr
   all_goals go_simp
   exact Done.rel (p := NbV true) (Below.refl _ _) rfl
 )
 show ∀ w', _ -> _
 intro wz hz
 simp [Act.put]
 case hS => exact HS.out
 intro _ _ _ _ _ _ _ _ _ _ x6 hx6 x7 hx7
 obtain ⟨Ax6, cx6, rfl⟩ := hx6
 obtain rfl : x7 = .bool true := hx7
 clear HS
 have HS := Lib.hid hz
 clear hz
 go_upto_region 7 with (fail)
 refine wp_region_stable (S := (AxS w bb Ab bo Ao co bf Af cf (fun w => (True /\ BrV [([], 2)] v4 w) /\ BrV [([⟨1, 0, 0, 0⟩, ⟨5, 0, 7, 0⟩], 1)] v5 w))) (hSt := fun _ _ h hb => h.later hb) (plan := [[(1, none)], [(1, none)], [(38, some 1)], [(37, some 0), (39, some 2)], [(40, some 3)], [(36, some 4)], [(36, some 4)], [(41, some 5)], [(42, some 6)]]) (by kernel_rfl) (by kernel_rfl) (by kernel_rfl) ?hS ?_
 rotate_left
 iterate 2 first
  | (refine chain_skip (by rfl) (by rfl) ?_)
  | (apply chain_want (by rfl)
     ·intro act wx hS hr
      simp at hr
      have e0 := hS.b.load
      go_simp
      (try go_ints)
      first
       | exact Done.same
    )
 (refine chain_rel (StV (stL nwB)) (StV.later (stL nwB)) (by rfl) ?_ ?_
  ·intro act wx hS hr
   simp at hr
   have e0 := hS.b.load
   all_goals go_simp
   with_reducible refine Calls.mono (HSB.out _) ?_
   rintro e w' ⟨v, rfl, hv, hb⟩
   exact Done.rel hb hv
 )
 (refine chain_rel (NeV false) (NeV.later false) (by rfl) ?_ ?_
  ·intro act wx hS hr
   simp at hr
   have e0 := hS.b.load
   obtain ⟨hr1, u2, hr2, B2, k2, rfl, hk2, hq2⟩ := hr
   all_goals go_simp
   with_reducible refine Calls.mono (HR7.out _ B2 k2 hk2 hS.b.row hq2) ?_
   rintro e w' ⟨v, rfl, hv, hb⟩
   exact Done.rel hb hv
 )
 (refine chain_rel (NeV false) (NeV.later false) (by rfl) ?_ ?_
  ·intro act wx hS hr
   simp at hr
   have e0 := hS.b.load
   obtain ⟨u3, hr, A3, c3, rfl⟩ := hr
   all_goals go_simp
   exact Done.rel (p := NeV false) (Below.refl _ _) ⟨_, _, rfl⟩
 )
 (refine chain_rel (NlV 0) (NlV.later 0) (by rfl) ?_ ?_
  ·intro act wx hS hr
   simp at hr
   have e0 := hS.b.load
   obtain ⟨u3, hr, A3, c3, rfl⟩ := hr
   all_goals go_simp
   exact Done.rel (p := NlV 0) (Below.refl _ _) ⟨_, _, rfl⟩
 )
 (refine chain_rel (NbV false) (NbV.later false) (by rfl) ?_ ?_
  ·intro act wx hS hr
   simp at hr
   have e0 := hS.b.load
   obtain ⟨u3, hr, A3, c3, rfl⟩ := hr
   all_goals go_simp
   exact Done.rel (p := NbV false) (Below.refl _ _) rfl
 )
 (refine chain_rel (NlV 0) (NlV.later 0) (by rfl) ?_ ?_
  ·intro act wx hS hr
   simp at hr
   have e0 := hS.b.load
   obtain ⟨u3, hr, A3, c3, rfl⟩ := hr
   all_goals go_simp
   exact Done.rel (p := NlV 0) (Below.refl _ _) ⟨_, _, rfl⟩
 )
 (refine chain_rel (NbV false) (NbV.later false) (by rfl) ?_ ?_
  ·intro act wx hS hr
   simp at hr
   have e0 := hS.b.load
   obtain ⟨u3, hr, rfl⟩ := hr
   all_goals go_simp
   exact Done.rel (p := NbV false) (Below.refl _ _) rfl
 )
 show ∀ w', _ -> _
 intro wz hz
 simp [Act.put]
 case hS => exact HS.out
 intro _ _ _ _ _ _ _ _ _ _ x8 hx8 x9 hx9
 obtain ⟨Ax8, cx8, rfl⟩ := hx8
 obtain rfl : x9 = .bool false := hx9
 clear HS
 have HS := Lib.hid hz
 clear hz
 clear HSO HSF HNO HNF HR6 HR7
 obtain ⟨⟨-, HB4⟩, HB5⟩ := HS.out.p
 obtain ⟨A4, k4, D4, rfl, q4⟩ := HB4
 obtain ⟨A6, c6, rfl⟩ := one_br q4.brs
 obtain ⟨b4, o4, rfl, -, -⟩ := q4.row 0 (Nat.zero_lt_succ _)
 obtain ⟨A5, k5, D5, rfl, q5⟩ := HB5
 obtain ⟨A7, c7, rfl⟩ := one_br q5.brs
 obtain ⟨b5, o5, rfl, -, -⟩ := q5.row 0 (Nat.zero_lt_succ _)
 have f5 := (q5.its ⟨[⟨1, 0, 0, 0⟩, ⟨5, 0, 7, 0⟩], A7, c7, 1⟩ (by simp)) 0 (Nat.zero_lt_succ _)
 obtain ⟨b7, o7, hA7, -, -⟩ := f5
 simp only at hA7
 subst hA7
 generalize [([], 2)] = T4 at *
 generalize [([(⟨1, 0, 0, 0⟩ : Itm), ⟨5, 0, 7, 0⟩], 1)] = T5 at *
 have HS2 : Hid (AxS w bb Ab bo Ao co bf Af cf (fun w => BrA T4 (some ⟨b4, o4, none⟩) [⟨[], A6, c6, 2⟩] w /\ BrA T5 (some ⟨b5, o5, none⟩) [⟨[⟨1, 0, 0, 0⟩, ⟨5, 0, 7, 0⟩], some ⟨b7, o7, none⟩, c7, 1⟩] w) _) := ⟨HS.out.bel, HS.out.b, HS.out.o, HS.out.f, ⟨q4, q5⟩, fun _ _ h hb => ⟨h.1.later hb, h.2.later hb⟩⟩
 clear q4 q5 HS
 have HS := HS2
 clear HS2
 go_upto_region 8 with (fail)
 have e0 := HS.out.b.load
 have hbb := (Below.refl wz.heap.size wz).alloc (Nat.le_refl _) (.cells #[.int .i64 1, .int .i64 0, .int .i64 0, .int .i64 0, .int .i64 5, .int .i64 0, .int .i64 0, .int .i64 0] 44)
 have HSA := Lib.hid (HS.out.later hbb)
 have HX := Lib.hid (HR8.out _ _ HSA.out.b.row (ItRow.two (p := ⟨1, 0, 0, 0⟩) (q := ⟨5, 0, 0, 0⟩) (Blk.new wz #[.int .i64 1, .int .i64 0, .int .i64 0, .int .i64 0, .int .i64 5, .int .i64 0, .int .i64 0, .int .i64 0] 44)))
 clear hbb HS HR8
 go_wp2_with fail
 refine HX.out.mono ?_
 rintro e w9 ⟨v, rfl, ⟨A8, c8, rfl⟩, hb⟩
 have HS := Lib.hid (HSA.out.later hb)
 clear hb HX HSA e0
 go_upto_region 9 with (fail)
 have y0 := br_cell HS.out.p.2.row 0 _ rfl
 simp at y0
 obtain ⟨y0, y1⟩ := y0
 go_upto_region 11 with (fail)
 clear y0 y1
 have HQ1 : Hid (∀ w, (binOp .eql 44 (.agg #[.int .i64 1, .int .i64 0, .int .i64 0, .int .i64 0]) (.agg #[.int .i64 1, .int .i64 0, .int .i64 0, .int .i64 0])).run Try.prog w = .ok (.bool true) w) := fun w => eql_it ⟨1, 0, 0, 0⟩ ⟨1, 0, 0, 0⟩ w
 have HG1 : Hid (∀ o1 o2 w, (eqGuard .eql 44 o1 o2 (.agg #[.int .i64 1, .int .i64 0, .int .i64 0, .int .i64 0]) (.agg #[.int .i64 1, .int .i64 0, .int .i64 0, .int .i64 0])).run Try.prog w = .ok () w) := fun o1 o2 w => eqGuard_eql_it o1 o2 ⟨1, 0, 0, 0⟩ ⟨1, 0, 0, 0⟩ w
 have HQ2 : Hid (∀ w, (binOp .eql 44 (.agg #[.int .i64 5, .int .i64 0, .int .i64 7, .int .i64 0]) (.agg #[.int .i64 5, .int .i64 0, .int .i64 7, .int .i64 0])).run Try.prog w = .ok (.bool true) w) := fun w => eql_it ⟨5, 0, 7, 0⟩ ⟨5, 0, 7, 0⟩ w
 have HG2 : Hid (∀ o1 o2 w, (eqGuard .eql 44 o1 o2 (.agg #[.int .i64 5, .int .i64 0, .int .i64 7, .int .i64 0]) (.agg #[.int .i64 5, .int .i64 0, .int .i64 7, .int .i64 0])).run Try.prog w = .ok () w) := fun o1 o2 w => eqGuard_eql_it o1 o2 ⟨5, 0, 7, 0⟩ ⟨5, 0, 7, 0⟩ w
 have HE0 : Hid (∀ w', NRow w' Ab nwB -> Calls Try.prog 22 #[.agg #[.slice Ab 1 1], .slice none 0 0] w' (Ans w' (.int .i64 1))) := fun w' h => by
  have := nxEnds_any nwB Ab 1 [] none 0 nwB_rgt (by decide) nwB_txt (fun y hy => by cases hy) (by decide) w' h (ItRow.nil _ _)
  rw [nw_e0] at this; exact this
 have HE1 : Hid (∀ w' B k, NRow w' Ab nwB -> ItRow w' B (stL nwB) -> Calls Try.prog 22 #[.agg #[.slice Ab 1 1], .slice B (stL nwB).length k] w' (Ans w' (.int .i64 0))) := fun w' B k h1 h2 => by
  have := nxEnds_any nwB Ab 1 (stL nwB) B k nwB_rgt (by decide) nwB_txt (st_form (by decide)) (by decide) w' h1 h2
  rw [nw_es] at this; exact this
 have HCB : Hid (∀ w' B k, NRow w' Ab nwB -> ItRow w' B (stL nwB) -> Calls Try.prog 11 #[.agg #[.slice Ab 1 1], .slice B (stL nwB).length k] w' (fun e w'' => ∃ v, e = .returned v /\ NlV 1 v w'' /\ Below w'.heap.size w' w'')) := fun w' B k h1 h2 => (nxClasses_any nwB Ab 1 (stL nwB) B k nwB_rgt (by decide) nwB_txt (st_form (by decide)) (by decide) w' h1 h2).mono fun e w'' h => by
  obtain ⟨v, rfl, ⟨a, c, rfl, -⟩, hb⟩ := cls_known h
  rw [nw_cb]; exact ⟨_, rfl, ⟨a, c, rfl⟩, hb⟩
 have HSF : Hid (∀ w', Calls Try.prog 21 #[.agg #[.slice Af 2 cf]] w' (fun e w'' => ∃ v, e = .returned v /\ StV (stL nwF) v w'' /\ Below w'.heap.size w' w'')) := fun w' => start15_any nwF Af cf (by decide) w'
 have HCF : Hid (∀ w' B k, NRow w' Af nwF -> ItRow w' B (stL nwF) -> Calls Try.prog 11 #[.agg #[.slice Af 2 cf], .slice B (stL nwF).length k] w' (fun e w'' => ∃ v, e = .returned v /\ NlV 256 v w'' /\ Below w'.heap.size w' w'')) := fun w' B k h1 h2 => (nxClasses_any nwF Af cf (stL nwF) B k nwF_rgt (by decide) nwF_txt (st_form (by decide)) (by decide) w' h1 h2).mono fun e w'' h => by
  obtain ⟨v, rfl, ⟨a, c, rfl, -⟩, hb⟩ := cls_known h
  rw [nw_cf]; exact ⟨_, rfl, ⟨a, c, rfl⟩, hb⟩
 refine wp_region_stable (S := (AxS w bb Ab bo Ao co bf Af cf (fun w => BrA T4 (some ⟨b4, o4, none⟩) [⟨[], A6, c6, 2⟩] w /\ BrA T5 (some ⟨b5, o5, none⟩) [⟨[⟨1, 0, 0, 0⟩, ⟨5, 0, 7, 0⟩], some ⟨b7, o7, none⟩, c7, 1⟩] w))) (hSt := fun _ _ h hb => h.later hb) (plan := [[(4, none)], [(67, some 0)], [(68, some 1)], [(69, some 2)], [(70, some 3)], [(71, some 4)], [(4, none)], [(73, some 6)], [(74, some 7)], [(75, some 8)], [(76, some 9)], [(77, some 10)], [(72, some 5), (78, some 11)], [(79, some 12)], [(5, none)], [(81, some 14)], [(82, some 15)], [(83, some 16)], [(84, some 17)], [(80, some 13), (85, some 18)], [(86, some 19)], [(5, none)], [(88, some 21)], [(89, some 22)], [(90, some 23)], [(91, some 24)], [(92, some 25)], [], [(93, some 26), (94, some 27)], [(87, some 20), (95, some 28)], [(96, some 29)], [(5, none)], [(98, some 31)], [(99, some 32)], [(100, some 33)], [(101, some 34)], [(102, some 35)], [], [(103, some 36), (104, some 37)], [(97, some 30), (105, some 38)], [(106, some 39)], [(6, none)], [(108, some 41)], [(109, some 42)], [(107, some 40), (110, some 43)], [(111, some 44)], [(7, none)], [(112, some 45), (113, some 46)], [(114, some 47)], [(9, none)], [(116, some 49)], [(115, some 48), (117, some 50)], [(118, some 51)], [(11, none)], [(120, some 53)], [(119, some 52), (121, some 54)], [(122, some 55)], [(1, none)], [(124, some 57)], [(125, some 58)], [(123, some 56), (126, some 59)], [(127, some 60)], [(1, none)], [(1, none)], [(130, some 63)], [(129, some 62), (131, some 64)], [(132, some 65)], [(128, some 61), (133, some 66)], [(134, some 67)], [(1, none)], [(1, none)], [(137, some 70)], [(136, some 69), (138, some 71)], [(139, some 72)], [(140, some 73)], [(135, some 68), (141, some 74)], [(142, some 75)], [(3, none)], [(3, none)], [(145, some 78)], [(144, some 77), (146, some 79)], [(147, some 80)], [(148, some 81)], [(143, some 76), (149, some 82)], [(150, some 83)]]) (by kernel_rfl) (by kernel_rfl) (by kernel_rfl) ?hS ?_
 rotate_left
 iterate 64 first
  | (refine chain_skip (by rfl) (by rfl) ?_)
  | (apply chain_want (by rfl)
     ·intro act wx hS hr
      simp at hr
      have e0 := hS.b.load
      have e1 := hS.f.load
      have x0 := br_cell hS.p.1.row 0 _ rfl
      have y0 := br_cell hS.p.2.row 0 _ rfl
      have q3 := hS.p.2.its ⟨[⟨1, 0, 0, 0⟩, ⟨5, 0, 7, 0⟩], some ⟨b7, o7, none⟩, c7, 1⟩ (by simp)
      have p0 := q3.at (i := 0) (Nat.zero_lt_succ _) rfl
      have s0 := q3.at (i := 1) (by simp) rfl
      unfold At4 at p0 s0
      simp at x0 y0 p0 s0
      obtain ⟨x0, x2⟩ := x0
      obtain ⟨y0, y2⟩ := y0
      obtain ⟨p0, p1, p2, p3⟩ := p0
      obtain ⟨s0, s1, s2, s3⟩ := s0
      have hq1 := HQ1.out
      have hg1 := HG1.out
      have hq2 := HQ2.out
      have hg2 := HG2.out
      go_simp
      (try go_ints)
      first
       | ((with_reducible refine (HE0.out _ hS.b.row).mono ?_); rintro e w' ⟨rfl, hb⟩; exact Done.mk hb)
       | (obtain ⟨hr1, v, hr2, B, k, rfl, hk, hq8⟩ := hr; simp only [hr1, hr2, Option.getD_some]; (refine (HE1.out _ B k hS.b.row hq8).mono ?_); rintro e w' ⟨rfl, hb⟩; exact Done.mk hb)
       | (obtain ⟨v, hr, A, k, rfl⟩ := hr; simp only [hr, Option.getD_some]; go_simp; exact Done.same)
       | exact Done.same
    )
 (refine chain_rel (StV (stL nwB)) (StV.later (stL nwB)) (by rfl) ?_ ?_
  ·intro act wx hS hr
   simp at hr
   have e0 := hS.b.load
   have e1 := hS.f.load
   have x0 := br_cell hS.p.1.row 0 _ rfl
   have y0 := br_cell hS.p.2.row 0 _ rfl
   have q3 := hS.p.2.its ⟨[⟨1, 0, 0, 0⟩, ⟨5, 0, 7, 0⟩], some ⟨b7, o7, none⟩, c7, 1⟩ (by simp)
   have p0 := q3.at (i := 0) (Nat.zero_lt_succ _) rfl
   have s0 := q3.at (i := 1) (by simp) rfl
   unfold At4 at p0 s0
   simp at x0 y0 p0 s0
   obtain ⟨x0, x2⟩ := x0
   obtain ⟨y0, y2⟩ := y0
   obtain ⟨p0, p1, p2, p3⟩ := p0
   obtain ⟨s0, s1, s2, s3⟩ := s0
   have hq1 := HQ1.out
   have hg1 := HG1.out
   have hq2 := HQ2.out
   have hg2 := HG2.out
   all_goals go_simp
   with_reducible refine Calls.mono (HSB.out _) ?_
   rintro e w' ⟨v, rfl, hv, hb⟩
   exact Done.rel hb hv
 )
 iterate 6 first
  | (refine chain_skip (by rfl) (by rfl) ?_)
  | (apply chain_want (by rfl)
     ·intro act wx hS hr
      simp at hr
      have e0 := hS.b.load
      have e1 := hS.f.load
      have x0 := br_cell hS.p.1.row 0 _ rfl
      have y0 := br_cell hS.p.2.row 0 _ rfl
      have q3 := hS.p.2.its ⟨[⟨1, 0, 0, 0⟩, ⟨5, 0, 7, 0⟩], some ⟨b7, o7, none⟩, c7, 1⟩ (by simp)
      have p0 := q3.at (i := 0) (Nat.zero_lt_succ _) rfl
      have s0 := q3.at (i := 1) (by simp) rfl
      unfold At4 at p0 s0
      simp at x0 y0 p0 s0
      obtain ⟨x0, x2⟩ := x0
      obtain ⟨y0, y2⟩ := y0
      obtain ⟨p0, p1, p2, p3⟩ := p0
      obtain ⟨s0, s1, s2, s3⟩ := s0
      have hq1 := HQ1.out
      have hg1 := HG1.out
      have hq2 := HQ2.out
      have hg2 := HG2.out
      go_simp
      (try go_ints)
      first
       | ((with_reducible refine (HE0.out _ hS.b.row).mono ?_); rintro e w' ⟨rfl, hb⟩; exact Done.mk hb)
       | (obtain ⟨hr1, v, hr2, B, k, rfl, hk, hq8⟩ := hr; simp only [hr1, hr2, Option.getD_some]; (refine (HE1.out _ B k hS.b.row hq8).mono ?_); rintro e w' ⟨rfl, hb⟩; exact Done.mk hb)
       | (obtain ⟨v, hr, A, k, rfl⟩ := hr; simp only [hr, Option.getD_some]; go_simp; exact Done.same)
       | exact Done.same
    )
 (refine chain_rel (StV (stL nwB)) (StV.later (stL nwB)) (by rfl) ?_ ?_
  ·intro act wx hS hr
   simp at hr
   have e0 := hS.b.load
   have e1 := hS.f.load
   have x0 := br_cell hS.p.1.row 0 _ rfl
   have y0 := br_cell hS.p.2.row 0 _ rfl
   have q3 := hS.p.2.its ⟨[⟨1, 0, 0, 0⟩, ⟨5, 0, 7, 0⟩], some ⟨b7, o7, none⟩, c7, 1⟩ (by simp)
   have p0 := q3.at (i := 0) (Nat.zero_lt_succ _) rfl
   have s0 := q3.at (i := 1) (by simp) rfl
   unfold At4 at p0 s0
   simp at x0 y0 p0 s0
   obtain ⟨x0, x2⟩ := x0
   obtain ⟨y0, y2⟩ := y0
   obtain ⟨p0, p1, p2, p3⟩ := p0
   obtain ⟨s0, s1, s2, s3⟩ := s0
   have hq1 := HQ1.out
   have hg1 := HG1.out
   have hq2 := HQ2.out
   have hg2 := HG2.out
   all_goals go_simp
   with_reducible refine Calls.mono (HSB.out _) ?_
   rintro e w' ⟨v, rfl, hv, hb⟩
   exact Done.rel hb hv
 )
 (refine chain_rel (NlV 1) (NlV.later 1) (by rfl) ?_ ?_
  ·intro act wx hS hr
   simp at hr
   have e0 := hS.b.load
   have e1 := hS.f.load
   have x0 := br_cell hS.p.1.row 0 _ rfl
   have y0 := br_cell hS.p.2.row 0 _ rfl
   have q3 := hS.p.2.its ⟨[⟨1, 0, 0, 0⟩, ⟨5, 0, 7, 0⟩], some ⟨b7, o7, none⟩, c7, 1⟩ (by simp)
   have p0 := q3.at (i := 0) (Nat.zero_lt_succ _) rfl
   have s0 := q3.at (i := 1) (by simp) rfl
   unfold At4 at p0 s0
   simp at x0 y0 p0 s0
   obtain ⟨x0, x2⟩ := x0
   obtain ⟨y0, y2⟩ := y0
   obtain ⟨p0, p1, p2, p3⟩ := p0
   obtain ⟨s0, s1, s2, s3⟩ := s0
   have hq1 := HQ1.out
   have hg1 := HG1.out
   have hq2 := HQ2.out
   have hg2 := HG2.out
   obtain ⟨hr1, u2, hr2, B2, k2, rfl, hk2, hq2⟩ := hr
   all_goals go_simp
   with_reducible refine Calls.mono (HCB.out _ B2 k2 hS.b.row hq2) ?_
   rintro e w' ⟨v, rfl, hv, hb⟩
   exact Done.rel hb hv
 )
 iterate 6 first
  | (refine chain_skip (by rfl) (by rfl) ?_)
  | (apply chain_want (by rfl)
     ·intro act wx hS hr
      simp at hr
      have e0 := hS.b.load
      have e1 := hS.f.load
      have x0 := br_cell hS.p.1.row 0 _ rfl
      have y0 := br_cell hS.p.2.row 0 _ rfl
      have q3 := hS.p.2.its ⟨[⟨1, 0, 0, 0⟩, ⟨5, 0, 7, 0⟩], some ⟨b7, o7, none⟩, c7, 1⟩ (by simp)
      have p0 := q3.at (i := 0) (Nat.zero_lt_succ _) rfl
      have s0 := q3.at (i := 1) (by simp) rfl
      unfold At4 at p0 s0
      simp at x0 y0 p0 s0
      obtain ⟨x0, x2⟩ := x0
      obtain ⟨y0, y2⟩ := y0
      obtain ⟨p0, p1, p2, p3⟩ := p0
      obtain ⟨s0, s1, s2, s3⟩ := s0
      have hq1 := HQ1.out
      have hg1 := HG1.out
      have hq2 := HQ2.out
      have hg2 := HG2.out
      go_simp
      (try go_ints)
      first
       | ((with_reducible refine (HE0.out _ hS.b.row).mono ?_); rintro e w' ⟨rfl, hb⟩; exact Done.mk hb)
       | (obtain ⟨hr1, v, hr2, B, k, rfl, hk, hq8⟩ := hr; simp only [hr1, hr2, Option.getD_some]; (refine (HE1.out _ B k hS.b.row hq8).mono ?_); rintro e w' ⟨rfl, hb⟩; exact Done.mk hb)
       | (obtain ⟨v, hr, A, k, rfl⟩ := hr; simp only [hr, Option.getD_some]; go_simp; exact Done.same)
       | exact Done.same
    )
 (refine chain_rel (StV (stL nwF)) (StV.later (stL nwF)) (by rfl) ?_ ?_
  ·intro act wx hS hr
   simp at hr
   have e0 := hS.b.load
   have e1 := hS.f.load
   have x0 := br_cell hS.p.1.row 0 _ rfl
   have y0 := br_cell hS.p.2.row 0 _ rfl
   have q3 := hS.p.2.its ⟨[⟨1, 0, 0, 0⟩, ⟨5, 0, 7, 0⟩], some ⟨b7, o7, none⟩, c7, 1⟩ (by simp)
   have p0 := q3.at (i := 0) (Nat.zero_lt_succ _) rfl
   have s0 := q3.at (i := 1) (by simp) rfl
   unfold At4 at p0 s0
   simp at x0 y0 p0 s0
   obtain ⟨x0, x2⟩ := x0
   obtain ⟨y0, y2⟩ := y0
   obtain ⟨p0, p1, p2, p3⟩ := p0
   obtain ⟨s0, s1, s2, s3⟩ := s0
   have hq1 := HQ1.out
   have hg1 := HG1.out
   have hq2 := HQ2.out
   have hg2 := HG2.out
   all_goals go_simp
   with_reducible refine Calls.mono (HSF.out _) ?_
   rintro e w' ⟨v, rfl, hv, hb⟩
   exact Done.rel hb hv
 )
 (refine chain_rel (NlV 256) (NlV.later 256) (by rfl) ?_ ?_
  ·intro act wx hS hr
   simp at hr
   have e0 := hS.b.load
   have e1 := hS.f.load
   have x0 := br_cell hS.p.1.row 0 _ rfl
   have y0 := br_cell hS.p.2.row 0 _ rfl
   have q3 := hS.p.2.its ⟨[⟨1, 0, 0, 0⟩, ⟨5, 0, 7, 0⟩], some ⟨b7, o7, none⟩, c7, 1⟩ (by simp)
   have p0 := q3.at (i := 0) (Nat.zero_lt_succ _) rfl
   have s0 := q3.at (i := 1) (by simp) rfl
   unfold At4 at p0 s0
   simp at x0 y0 p0 s0
   obtain ⟨x0, x2⟩ := x0
   obtain ⟨y0, y2⟩ := y0
   obtain ⟨p0, p1, p2, p3⟩ := p0
   obtain ⟨s0, s1, s2, s3⟩ := s0
   have hq1 := HQ1.out
   have hg1 := HG1.out
   have hq2 := HQ2.out
   have hg2 := HG2.out
   obtain ⟨hr1, u2, hr2, B2, k2, rfl, hk2, hq2⟩ := hr
   all_goals go_simp
   with_reducible refine Calls.mono (HCF.out _ B2 k2 hS.f.row hq2) ?_
   rintro e w' ⟨v, rfl, hv, hb⟩
   exact Done.rel hb hv
 )
 iterate 4 first
  | (refine chain_skip (by rfl) (by rfl) ?_)
  | (apply chain_want (by rfl)
     ·intro act wx hS hr
      simp at hr
      have e0 := hS.b.load
      have e1 := hS.f.load
      have x0 := br_cell hS.p.1.row 0 _ rfl
      have y0 := br_cell hS.p.2.row 0 _ rfl
      have q3 := hS.p.2.its ⟨[⟨1, 0, 0, 0⟩, ⟨5, 0, 7, 0⟩], some ⟨b7, o7, none⟩, c7, 1⟩ (by simp)
      have p0 := q3.at (i := 0) (Nat.zero_lt_succ _) rfl
      have s0 := q3.at (i := 1) (by simp) rfl
      unfold At4 at p0 s0
      simp at x0 y0 p0 s0
      obtain ⟨x0, x2⟩ := x0
      obtain ⟨y0, y2⟩ := y0
      obtain ⟨p0, p1, p2, p3⟩ := p0
      obtain ⟨s0, s1, s2, s3⟩ := s0
      have hq1 := HQ1.out
      have hg1 := HG1.out
      have hq2 := HQ2.out
      have hg2 := HG2.out
      go_simp
      (try go_ints)
      first
       | ((with_reducible refine (HE0.out _ hS.b.row).mono ?_); rintro e w' ⟨rfl, hb⟩; exact Done.mk hb)
       | (obtain ⟨hr1, v, hr2, B, k, rfl, hk, hq8⟩ := hr; simp only [hr1, hr2, Option.getD_some]; (refine (HE1.out _ B k hS.b.row hq8).mono ?_); rintro e w' ⟨rfl, hb⟩; exact Done.mk hb)
       | (obtain ⟨v, hr, A, k, rfl⟩ := hr; simp only [hr, Option.getD_some]; go_simp; exact Done.same)
       | exact Done.same
    )
 show ∀ w', _ -> _
 intro w12 hz12
 simp [Act.put]
 case hS => exact HS.out
 intro _ _ _ _ _ _ _ _ _ _
 have HZ := Lib.hid hz12
 clear hz12
 go_wp2
 go_ret
 exact ⟨rfl, HZ.out.bel⟩
end Go.Proofs.Ytidoofdofdhjpaa
