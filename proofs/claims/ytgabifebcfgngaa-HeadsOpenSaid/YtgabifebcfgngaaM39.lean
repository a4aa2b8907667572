/- Heads: walked. -/
import Derived.Test.YtgabifebcfgngaaM36
import Derived.Test.YtgabifebcfgngaaM38
import Derived.Test.YtgabifebcfgngaaM31
import Derived.Test.YtgabifebcfgngaaM32
import Derived.Test.YtgabifebcfgngaaM29
namespace Go.Proofs.Ytgabifebcfgngaa
open Go Go.RowKit
set_option linter.unusedVariables false
set_option linter.unusedSimpArgs false
set_option maxRecDepth 100000
set_option maxHeartbeats 16000000

theorem OwnBr.lower {w : World} {base base' : Nat} {v : Value} {l : List HdE} (h : OwnBr w base v l) (hb : base' ≤ base) : OwnBr w base' v l := by
  obtain ⟨h0, ⟨hv, hn⟩ | ⟨g, cap, cur, hv, hg, hr⟩⟩ := h
  · exact ⟨h0, .inl ⟨hv, hn⟩⟩
  · exact ⟨h0, .inr ⟨g, cap, cur, hv, Nat.le_trans hb hg, hr⟩⟩
def brS (e : HdE) : List Itm × Nat := (e.s, e.many)
theorem mnyE_brs (t : List Itm) : ∀ D : List HdE, mnyB (D.map brS) t = mnyE D t
  | [] => rfl
  | d :: D => by
    rw [List.map_cons]
    unfold mnyE
    show (if t = d.s then d.many else mnyB (D.map brS) t) = _
    rw [mnyE_brs t D]
    by_cases h : t = d.s
    · rw [if_pos h, if_pos h.symm]
    · rw [if_neg h, if_neg fun e => h e.symm]
theorem mnyE_perm (t : List Itm) {L M : List HdE} (h : L.Perm M) : (L.map HdE.s).Nodup → mnyE L t = mnyE M t := by
  induction h with
  | nil => intro _; rfl
  | cons x h ih =>
    intro hn
    rw [List.map_cons, List.nodup_cons] at hn
    unfold mnyE
    rw [ih hn.2]
  | swap x y L =>
    intro hn
    rw [List.map_cons, List.map_cons, List.nodup_cons, List.mem_cons] at hn
    have hne : y.s ≠ x.s := fun e => hn.1 (.inl e)
    unfold mnyE
    unfold mnyE
    by_cases h1 : y.s = t
    · rw [if_pos h1, if_neg (fun e => hne (by rw [h1, e])), if_pos h1]
    · rw [if_neg h1]
      by_cases h2 : x.s = t
      · rw [if_pos h2, if_pos h2]
      · rw [if_neg h2, if_neg h2, if_neg h1]
  | trans h1 h2 ih1 ih2 =>
    intro hn
    rw [ih1 hn, ih2 ((h1.map HdE.s).nodup_iff.1 hn)]
/-- What is found, put in order, is the heads. -/
theorem hd_found {l : List Nd} {s : List Itm} {HE D : List HdE} (hO : HOk HE) (hm : ∀ t, mnyE HE t = min 2 ((rchS l s).count t)) (hp : D.Perm HE) (hs : D.Pairwise fun a b => stC a.s b.s = -1) : D.map brS = hdsL l s := by
  refine brs_ext ?_ (hds_srt l s) ?_ (hds_pos l s) fun t => ?_
  · unfold HdSrt
    rw [List.pairwise_map]
    exact hs
  · intro a ha
    obtain ⟨e, he, rfl⟩ := List.mem_map.1 ha
    have := hO.2 e (hp.mem_iff.1 he)
    exact ⟨this.1, this.2.1⟩
  · rw [mnyE_brs, mnyE_perm t hp ((hp.map HdE.s).nodup_iff.2 hO.1), hm, hds_mny]
theorem hd_many {l : List Nd} (hR : Rgt l) {s : List Itm} (hs : ∀ y ∈ s, HdF l y) {HE : List HdE} (hO : HOk HE) (hm : ∀ t, mnyE HE t = min 2 ((rchS l s).count t)) : HE.length ≤ s.length * l.length + 1 := by
  have h1 : (HE.map HdE.s).length ≤ ((hdsL l s).map Prod.fst).length := nodup_among hO.1 fun t ht => by
    rw [show hdsL l s = brsL (rchS l s) from rfl, brsL_keys, ← List.count_pos_iff]
    obtain ⟨e, he, rfl⟩ := List.mem_map.1 ht
    have h2 := hm e.s
    have h3 : mnyE HE e.s = e.many := by
      have hn := hO.1
      clear h2 ht hO hm
      induction HE with
      | nil => cases he
      | cons d L ih =>
        rw [List.map_cons, List.nodup_cons] at hn
        unfold mnyE
        rcases List.mem_cons.1 he with rfl | h
        · rw [if_pos rfl]
        · rw [if_neg (fun q => hn.1 (by rw [q]; exact List.mem_map.2 ⟨e, h, rfl⟩)), ih h hn.2]
    have h4 := (hO.2 e he).1
    omega
  rw [List.length_map, List.length_map] at h1
  have := hds_len hR hs
  omega
structure HjR (l : List Nd) (NA : Option Addr) (c wb m : Nat) (w0 : World) (s : List Itm) (j q f' : Nat) (HE' : List HdE) (v' : Value) (w : World) : Prop where
  st : HwS l NA c wb m w0 (s.drop j) f' HE' v' w
  ok : HOk HE'
  q2 : q ≤ 2
  hit : ∀ t, min 2 (mnyE HE' t + q * hitF (rchS l (s.drop j)) [] t) = min 2 (hitF (rchS l s) [] t)
  nil : min 2 (q * nilF (rchS l (s.drop j))) = min 2 (nilF (rchS l s))
def HjL (l : List Nd) (NA : Option Addr) (c wb m : Nat) (w0 : World) (s : List Itm) (q i : Value) (w : World) : Prop :=
  ∃ (j q' f' : Nat) (HE' : List HdE) (v' : Value), j ≤ s.length ∧ i = .int .i64 (j : Int) ∧ q = .int .i64 (q' : Int) ∧ HjR l NA c wb m w0 s j q' f' HE' v' w ∧ Blk w w0.heap.size #[.slice NA l.length c] 24
theorem HjR.step {l : List Nd} {NA : Option Addr} {c wb m : Nat} {w0 : World} {s : List Itm} {j q f' : Nat} {HE' : List HdE} {v' : Value} {w w' : World} (hR : Rgt l) (hs : ∀ y ∈ s, HdF l y) (h : HjR l NA c wb m w0 s j q f' HE' v' w) (hj : j < s.length) {HE2 : List HdE} {v2 : Value} {f2 : Nat}
    (h2 : HwS l NA c wb m w0 (s.drop (j + 1)) f2 HE2 v2 w') (ho : HOk HE2) (hm : ∀ t, mnyE HE2 t = min 2 (mnyE HE' t + q * hitF (rchS l [s.getD j it0]) (s.drop (j + 1)) t)) :
    HjR l NA c wb m w0 s (j + 1) (min 2 (q * nilF (rchS l [s.getD j it0]))) f2 HE2 v2 w' := by
  have hd : s.drop j = s.getD j it0 :: s.drop (j + 1) := by
    rw [List.drop_eq_getElem_cons hj, List.getD_eq_getElem?_getD, List.getElem?_eq_getElem hj]; rfl
  have hx : HdF l (s.getD j it0) := hs _ (by rw [List.getD_eq_getElem?_getD, List.getElem?_eq_getElem hj]; exact List.getElem_mem hj)
  have hrr : ∀ y ∈ s.drop (j + 1), HdF l y := fun y hy => hs y (List.mem_of_mem_drop hy)
  refine ⟨h2, ho, Nat.min_le_left _ _, fun t => ?_, ?_⟩
  · have h1 := (pass_round hR hx hrr [] t (h := mnyE HE' t) (w := q)).1
    rw [List.append_nil] at h1
    rw [hm t, h1, ← hd]
    exact h.hit t
  · rw [(pass_round hR hx hrr [] [] (h := 0) (w := q)).2, ← hd]
    exact h.nil
theorem HjR.end_ {l : List Nd} {NA : Option Addr} {c wb m : Nat} {w0 : World} {s : List Itm} {q f' : Nat} {HE' : List HdE} {v' : Value} {w : World} (h : HjR l NA c wb m w0 s s.length q f' HE' v' w) : HwS l NA c wb m w0 [] f' HE' v' w ∧
    (q = 0 → ∀ t, mnyE HE' t = min 2 ((rchS l s).count t)) ∧ ∀ HE2 : List HdE, (∀ t, mnyE HE2 t = if t = [] then min 2 (mnyE HE' [] + q) else mnyE HE' t) → ∀ t, mnyE HE2 t = min 2 ((rchS l s).count t) := by
  have h1 := h.nil
  have h2 := h.st
  have h4 := h.q2
  rw [List.drop_length] at h1 h2
  rw [(hit_end (l := l) [] []).2, Nat.mul_one] at h1
  have hq : ∀ t, mnyE HE' t = min 2 (hitF (rchS l s) [] t) := fun t => by
    have h5 := h.hit t
    rw [List.drop_length, (hit_end (l := l) [] t).1, Nat.mul_zero, Nat.add_zero] at h5
    have := mny_le h.ok t
    omega
  refine ⟨h2, fun q0 t => ?_, fun HE2 hm t => ?_⟩
  · have h6 := hit_all (rchS l s) t
    rw [hq t]
    by_cases ht : t = []
    · rw [if_pos ht] at h6; omega
    · rw [if_neg ht] at h6; omega
  · have h6 := hit_all (rchS l s) t
    rw [hm t]
    by_cases ht : t = []
    · subst ht
      rw [if_pos rfl] at h6 ⊢
      rw [hq []]
      omega
    · rw [if_neg ht] at h6 ⊢
      rw [hq t]; omega
theorem run_makeMap_h (w : World) : (Instr.makeMap 55 none).run Try.prog w = .ok (.map (some w.heap.size)) (w.alloc (.map #[] 0)) := by
  simp [Instr.makeMap, Sem.run_bind, newObj, Sem.run, Result.andThen]
/-- What Heads answers. -/
def HdsP (l : List Nd) (s : List Itm) (w : World) (e : Ending) (w' : World) : Prop :=
  ∃ v D, e = .returned v ∧ D.map brS = hdsL l s ∧ OwnBr w' w.heap.size v D ∧ (∀ d ∈ D, OwnIt w' w.heap.size d.v d.s) ∧ Below w.heap.size w w' ∧ ∀ d ∈ D, d.s.length ≤ 1000
theorem hdHeads_any (l : List Nd) (A : Option Addr) (c : Nat) (s : List Itm) (B : Option Addr) (c2 : Nat) (hR : Rgt l) (hlen : l.length ≤ 300) (htx : Txt l) (hs : ∀ y ∈ s, HdF l y) (hsl : s.length ≤ 200) (w : World) (hrow : NRow w A l) (hss : ItRow w B s) :
    Calls Try.prog 10 #[.agg #[.slice A l.length c], .slice B s.length c2] w (HdsP l s w) := by
  have HRW := Lib.hid hrow
  have HSS := Lib.hid hss
  have HF := Lib.hid hs
  have hb1 := (Below.refl w.heap.size w).alloc (Nat.le_refl _) (.cells #[.slice A l.length c] 24)
  have HB1 := Lib.hid hb1
  have HD1 := Lib.hid (Blk.new w #[.slice A l.length c] 24)
  have hs1 : (w.alloc (.cells #[.slice A l.length c] 24)).heap.size = w.heap.size + 1 := World.size_alloc _ _
  clear hrow hss hs hb1
  go_enter Try.func10, Try.ntmps10
  go_upto_region 1 with (fail)
  generalize w.alloc (.cells #[.slice A l.length c] 24) = w1 at *
  have e0 := HD1.out.cell 0
  simp at e0
  have hmk := run_makeMap_h w1
  have hm1 : IsMapH (w1.alloc (.map #[] 0)) w1.heap.size [] := heap_alloc_new _ _
  have hb2 := (Below.refl w1.heap.size w1).alloc (Nat.le_refl _) (.map #[] 0)
  have hs2 : (w1.alloc (.map #[] 0)).heap.size = w.heap.size + 2 := by rw [World.size_alloc, hs1]
  generalize w1.alloc (.map #[] 0) = w2 at *
  rw [hs1] at hm1 hmk
  have e1 := (HD1.out.later hb2).cell 0
  simp at e1
  go_upto_region 2 with (fail)
  have hb3 := (Below.refl w2.heap.size w2).alloc (Nat.le_refl _) (.cells (wkC A l c (.slice none 0 0) 0 (w.heap.size + 1)) 57)
  have HB3 := Lib.hid ((HB1.out.trans (hb2.mono HB1.out.size)).trans (hb3.mono (Nat.le_trans HB1.out.size hb2.size)))
  have HW0 : Hid (HwS l A c (w.heap.size + 2) (w.heap.size + 1) w s.reverse 0 [] (.slice none 0 0) w → True) := fun _ => trivial
  clear HW0
  have HW3 : Hid (HwS l A c (w.heap.size + 2) (w.heap.size + 1) w [] 0 [] (.slice none 0 0) (w2.alloc (.cells (wkC A l c (.slice none 0 0) 0 (w.heap.size + 1)) 57))) :=
    ⟨HB3.out, HRW.out, Blk.new' hs2.symm _ _, OwnIt.nil0 _ _, hm1.later hb3, by omega, by omega, (fun e he => by cases he)⟩
  have HD3 := Lib.hid ((HD1.out.later hb2).later hb3)
  have hs3 : (w2.alloc (.cells (wkC A l c (.slice none 0 0) 0 (w.heap.size + 1)) 57)).heap.size = w.heap.size + 3 := by rw [World.size_alloc, hs2]
  clear hb2 hb3 hm1 e1 e0 hmk HD1
  unfold wkC at HW3 HD3 HB3 hs3
  rw [show ((0 : Nat) : Int) = 0 from rfl] at HW3 HD3 HB3 hs3
  generalize w2.alloc (.cells #[.slice A l.length c, .slice none 0 0, .int .i64 0, .map (some (w.heap.size + 1))] 57) = w3 at *
  have HLY := Lib.hid (hdLay_any l A c (w.heap.size + 2) (w.heap.size + 1) w [] 0 [] (.slice none 0 0) s B c2 w3 HW3.out (by omega) (by simp) (fun w' hk => HSS.out.later (HB3.out.trans hk.bel)))
  go_wp2_with fail
  refine HLY.out.mono ?_
  rintro e w4 ⟨rfl, v4, hw4, hk4⟩
  rw [List.append_nil] at hw4
  have HS0 : Hid (HjL l A c (w.heap.size + 2) (w.heap.size + 1) w s (.int .i64 1) (.int .i64 0) w4) :=
    ⟨0, 1, 0, [], v4, Nat.zero_le _, rfl, rfl, ⟨hw4, ⟨List.nodup_nil, fun e he => by cases he⟩, by omega, fun t => by rw [List.drop_zero, Nat.one_mul, show mnyE [] t = 0 from rfl, Nat.zero_add], by rw [List.drop_zero, Nat.one_mul]⟩, hk4.typ _ _ _ HD3.out (by decide) (by omega)⟩
  clear hw4 hk4 HLY HW3 HD3 HB3 hs3 hs2 hs1 HB1
  have hlz : (l.length : Int) ≤ 300 := by omega
  go_wp2
  go_loopw [6, 14] (HjL l A c (w.heap.size + 2) (w.heap.size + 1) w s) (fun _ i _ => s.length - (intOf i).toNat)
  case atStart => exact HS0.out
  case round =>
    obtain ⟨j, q, f', HE', v', hj, rfl, rfl, hh, hd⟩ := hrel
    have HH := Lib.hid hh
    have HD := Lib.hid hd
    have HJ := Lib.hid hj
    have e0 := hd.cell 0
    simp at e0
    clear hh hd
    by_cases hlt : j < s.length
    · have hz : (j : Int) < (s.length : Int) := by omega
      have HLT := Lib.hid hlt
      have c2' := HH.out.st.blk.cell 2
      have f2' := HH.out.st.blk.frozen 2
      simp [wkC] at c2'
      have hdr : s.drop j = s.getD j it0 :: s.drop (j + 1) := by
        rw [List.drop_eq_getElem_cons hlt, List.getD_eq_getElem?_getD, List.getElem?_eq_getElem hlt]; rfl
      have HX : Hid (HdF l (s.getD j it0)) := HF.out _ (by rw [List.getD_eq_getElem?_getD, List.getElem?_eq_getElem hlt]; exact List.getElem_mem hlt)
      have hs9 := HH.out.st.fuel (2 * l.length + 1)
      have hfz : ((2 * l.length + 1 : Nat) : Int) = 2 * (l.length : Int) + 1 := by omega
      rw [hdr, hfz] at hs9
      have hcs := cs_le hR.1.1 HX.out
      have hdl : (s.drop (j + 1)).length ≤ 200 := by rw [List.length_drop]; omega
      have HPP := Lib.hid (hd_pass_all hR (by omega) htx (2 * l.length) (s.getD j it0) (s.drop (j + 1)) (2 * l.length + 1) HE' v' q _ HX.out (fun y hy => HF.out y (List.mem_of_mem_drop hy)) hs9 HH.out.ok HH.out.q2 (by omega) (by omega) (fun hq => ⟨by omega, by omega, by omega⟩))
      have HKD := Lib.hid (HdK.set (w := wr) HH.out.st.hwb 2 (.int .i64 (2 * (l.length : Int) + 1)))
      clear hs9 hdr hlt hdl hj hcs hfz
      go_upto_region 7 with (fail)
      generalize wr.setCell ⟨w.heap.size + 2, 2, none⟩ (.int .i64 (2 * (l.length : Int) + 1)) = w5 at HPP HKD ⊢
      go_wp2_with fail
      refine HPP.out.mono ?_
      rintro e w6 ⟨HE2, v6, f2, rfl, g1, g2, g3, g4, g5, g6⟩
      have HN := Lib.hid (HH.out.step hR HF.out HLT.out g1 g3 g4)
      have HD6 := Lib.hid ((HKD.out.trans g2).typ _ _ _ HD.out (by decide) (by omega))
      clear g1 g2 g3 g4 g5 g6 HPP HKD e0 c2' f2'
      generalize min 2 (q * nilF (rchS l [s.getD j it0])) = q2 at *
      go_wp2
      go_roundw
      case rel => exact ⟨j + 1, q2, f2, HE2, v6, HLT.out, by go_num, rfl, HN.out, HD6.out⟩
      case measure => have := HLT.out; simp [intOf] <;> omega
    · obtain rfl : j = s.length := by omega
      have hz : ¬ ((s.length : Nat) : Int) < (s.length : Int) := by omega
      obtain ⟨h1, h2, h3⟩ := HH.out.end_
      have hq2 := HH.out.q2
      by_cases hq0 : q = 0
      · subst hq0
        have hcnt := h2 rfl
        have HOKK := HH.out.ok
        have HFD := Lib.hid (fun D => hd_found (D := D) HOKK hcnt)
        have HSO := Lib.hid (hdSorted_any HE' (w.heap.size + 1) w.heap.size wr h1.map (fun e he => (h1.ent e he).1) (fun e he => by have := (HOKK.2 e he).2.2; omega) (by have := hd_many hR HF.out HOKK hcnt; have : s.length * l.length ≤ 200 * 300 := Nat.mul_le_mul (by omega) (by omega); omega) HOKK.1)
        have HEN := Lib.hid (fun e he => (h1.ent e he).1)
        have HBE := Lib.hid h1.bel
        have c3 := h1.blk.cell 3
        simp [wkC] at c3
        clear h1 h2 h3 hcnt hlt hj
        go_wp2_with fail
        refine HSO.out.mono ?_
        rintro e w9 ⟨v5, D, rfl, k1, k2, k3, k4⟩
        obtain ⟨a5, c5, hv5, -, -⟩ := k3.row
        subst hv5
        have HP : Hid (HdsP l s w (.returned (.slice a5 D.length c5)) w9) := ⟨_, D, rfl, HFD.out D k1 k2, OwnBr.lower k3 HBE.out.size, fun d hd => (HEN.out d (k1.mem_iff.1 hd)).later k4, HBE.out.trans (k4.mono HBE.out.size), fun d hd => ((Lib.hid HOKK).out.2 d (k1.mem_iff.1 hd)).2.2⟩
        clear k1 k2 k3 k4
        go_wp2
        go_ret
        exact HP.out
      · have hqp : (0 : Int) < (q : Int) := by omega
        have HAD := Lib.hid (hdWadd_any l A c (w.heap.size + 2) (w.heap.size + 1) w [] f' HE' v' q ⟨by omega, hq2⟩ wr h1 (by simp) (fun x hx => by cases hx) HH.out.ok)
        have HH3 := Lib.hid h3
        clear h1 h2 h3
        go_wp2_with fail
        refine HAD.out.mono ?_
        rintro e w6 ⟨rfl, HE6, h1, hk6, HOKK, hm6⟩
        have hcnt := HH3.out HE6 hm6
        have h2 : True := trivial
        have h3 : True := trivial
        clear hk6 hm6 HAD HH3 e0
        have HFD := Lib.hid (fun D => hd_found (D := D) HOKK hcnt)
        have HSO := Lib.hid (hdSorted_any HE6 (w.heap.size + 1) w.heap.size w6 h1.map (fun e he => (h1.ent e he).1) (fun e he => by have := (HOKK.2 e he).2.2; omega) (by have := hd_many hR HF.out HOKK hcnt; have : s.length * l.length ≤ 200 * 300 := Nat.mul_le_mul (by omega) (by omega); omega) HOKK.1)
        have HEN := Lib.hid (fun e he => (h1.ent e he).1)
        have HBE := Lib.hid h1.bel
        have c3 := h1.blk.cell 3
        simp [wkC] at c3
        clear h1 h2 h3 hcnt hlt hj
        go_wp2_with fail
        refine HSO.out.mono ?_
        rintro e w9 ⟨v5, D, rfl, k1, k2, k3, k4⟩
        obtain ⟨a5, c5, hv5, -, -⟩ := k3.row
        subst hv5
        have HP : Hid (HdsP l s w (.returned (.slice a5 D.length c5)) w9) := ⟨_, D, rfl, HFD.out D k1 k2, OwnBr.lower k3 HBE.out.size, fun d hd => (HEN.out d (k1.mem_iff.1 hd)).later k4, HBE.out.trans (k4.mono HBE.out.size), fun d hd => ((Lib.hid HOKK).out.2 d (k1.mem_iff.1 hd)).2.2⟩
        clear k1 k2 k3 k4
        go_wp2
        go_ret
        exact HP.out
end Go.Proofs.Ytgabifebcfgngaa
/- What the statements of heads share: states, branches known; a start. -/
namespace Go.Proofs.Ytgabifebcfgngaa
open Go Go.RowKit
set_option linter.unusedVariables false
set_option linter.unusedSimpArgs false
set_option maxRecDepth 100000
set_option maxHeartbeats 16000000

/-- A state that is known. -/
def StV (s : List Itm) (v : Value) (w : World) : Prop := ∃ A cap, v = .slice A s.length cap ∧ s.length ≤ cap ∧ ItRow w A s
theorem StV.later (s : List Itm) (v : Value) (w w' : World) (h : StV s v w) (hb : Below w.heap.size w w') : StV s v w' := by
  obtain ⟨A, cap, h1, h2, h3⟩ := h
  exact ⟨A, cap, h1, h2, h3.later hb⟩
/-- Branches in memory, each with its state. -/
structure BrA (T : Brs) (A : Option Addr) (D : List HdE) (w : World) : Prop where
  brs : D.map brS = T
  row : BrRow w A D
  cap : ∀ d ∈ D, d.s.length ≤ d.cap ∧ d.s.length ≤ 1000
  its : ∀ d ∈ D, ItRow w d.A d.s
theorem BrA.later {T : Brs} {A : Option Addr} {D : List HdE} {w w' : World} (h : BrA T A D w) (hb : Below w.heap.size w w') : BrA T A D w' := ⟨h.brs, h.row.later hb, h.cap, fun d hd => (h.its d hd).later hb⟩
def BrV (T : Brs) (v : Value) (w : World) : Prop := ∃ A cap D, v = .slice A D.length cap ∧ BrA T A D w
theorem BrV.later (T : Brs) (v : Value) (w w' : World) (h : BrV T v w) (hb : Below w.heap.size w w') : BrV T v w' := by
  obtain ⟨A, cap, D, h1, h2⟩ := h
  exact ⟨A, cap, D, h1, h2.later hb⟩
/-- States in memory. -/
structure StA (T : List (List Itm)) (A : Option Addr) (D : List HdE) (w : World) : Prop where
  sts : D.map HdE.s = T
  row : ∀ i, i < D.length → ∃ b off, A = some ⟨b, off, none⟩ ∧ b < w.heap.size ∧ w.cell? ⟨b, off + i, none⟩ = some (D.getD i hd0).v
  cap : ∀ d ∈ D, d.s.length ≤ d.cap
  its : ∀ d ∈ D, ItRow w d.A d.s
theorem StA.later {T : List (List Itm)} {A : Option Addr} {D : List HdE} {w w' : World} (h : StA T A D w) (hb : Below w.heap.size w w') : StA T A D w' := ⟨h.sts, fun i hi => by
  obtain ⟨b, off, ha, hlt, hc⟩ := h.row i hi
  exact ⟨b, off, ha, Nat.lt_of_lt_of_le hlt hb.size, (hb.cell (p := ⟨b, off + i, none⟩) hlt).trans hc⟩, h.cap, fun d hd => (h.its d hd).later hb⟩
def StsV (T : List (List Itm)) (v : Value) (w : World) : Prop := ∃ A cap D, v = .slice A D.length cap ∧ StA T A D w
theorem StsV.later (T : List (List Itm)) (v : Value) (w w' : World) (h : StsV T v w) (hb : Below w.heap.size w w') : StsV T v w' := by
  obtain ⟨A, cap, D, h1, h2⟩ := h
  exact ⟨A, cap, D, h1, h2.later hb⟩
theorem own_it {w : World} {B : Nat} {d : HdE} (h : OwnIt w B d.v d.s) : d.s.length ≤ d.cap ∧ ItRow w d.A d.s := by
  obtain ⟨a, cap, hv, hc, hr⟩ := OwnIt.row h
  unfold HdE.v at hv
  cases hv
  exact ⟨hc, hr⟩
theorem hds_known {l : List Nd} {s : List Itm} {w w' : World} {e : Ending} (h : HdsP l s w e w') : ∃ v, e = .returned v ∧ BrV (hdsL l s) v w' ∧ Below w.heap.size w w' := by
  obtain ⟨v, D, rfl, h1, h2, h3, h4, h5⟩ := h
  obtain ⟨A, cap, rfl, -, hr⟩ := h2.row
  exact ⟨_, rfl, ⟨A, cap, D, rfl, h1, hr, fun d hd => ⟨(own_it (h3 d hd)).1, h5 d hd⟩, fun d hd => (own_it (h3 d hd)).2⟩, h4⟩
theorem ho_known {l : List Nd} {x : Itm} {r : List Itm} {w w' : World} {e : Ending} (h : HoP l x r w e w') : ∃ v, e = .returned v ∧ StsV (opnS l x r) v w' ∧ Below w.heap.size w w' := by
  obtain ⟨v, D, rfl, h1, h2, h3, h4⟩ := h
  obtain ⟨A, cap, rfl, -, hr⟩ := h2.row
  exact ⟨_, rfl, ⟨A, cap, D, rfl, h1, hr, fun d hd => (own_it (h3 d hd)).1, fun d hd => (own_it (h3 d hd)).2⟩, h4⟩
theorem itF_iff {l : List Nd} {x : Itm} (h : itF l x = true) : HdF l x := by
  unfold itF at h
  by_cases h5 : x.kind = 5
  · rw [if_pos h5] at h
    simp only [Bool.and_eq_true, decide_eq_true_eq] at h
    exact ⟨fun _ => ⟨h.1.1.1, h.2, h.1.1.2, h.1.2⟩, fun k => absurd h5 k, ⟨by omega, by omega⟩, fun k => by omega, fun k => by omega, fun k => by omega, fun k => by omega⟩
  · rw [if_neg h5] at h
    by_cases hn : x.node < 0 ∨ (l.length : Int) ≤ x.node
    · rw [if_pos hn] at h; cases h
    · rw [if_neg hn] at h
      have hn2 : 0 ≤ x.node ∧ x.node < (l.length : Int) := by omega
      simp only at h
      by_cases h1 : x.kind = 1
      · rw [if_pos h1] at h
        simp only [Bool.and_eq_true, decide_eq_true_eq] at h
        exact ⟨fun k => absurd k h5, fun _ => hn2, ⟨by omega, by omega⟩, fun _ => h, fun k => by omega, fun k => by omega, fun k => by omega⟩
      · rw [if_neg h1] at h
        by_cases h2 : x.kind = 2
        · rw [if_pos h2] at h
          simp only [Bool.and_eq_true, decide_eq_true_eq] at h
          exact ⟨fun k => absurd k h5, fun _ => hn2, ⟨by omega, by omega⟩, fun k => by omega, fun _ => ⟨h.1.1.1, h.1.1.2, h.1.2, h.2⟩, fun k => by omega, fun k => by omega⟩
        · rw [if_neg h2] at h
          by_cases h3 : x.kind = 3
          · rw [if_pos h3] at h
            simp only [Bool.and_eq_true, decide_eq_true_eq] at h
            exact ⟨fun k => absurd k h5, fun _ => hn2, ⟨by omega, by omega⟩, fun k => by omega, fun k => by omega, fun _ => ⟨h.1.1.1, h.2, h.1.1.2, h.1.2⟩, fun k => by omega⟩
          · rw [if_neg h3] at h
            by_cases h4 : x.kind = 4
            · rw [if_pos h4] at h
              simp only [Bool.and_eq_true, decide_eq_true_eq] at h
              exact ⟨fun k => absurd k h5, fun _ => hn2, ⟨by omega, by omega⟩, fun k => by omega, fun k => by omega, fun k => by omega, fun _ => ⟨h.1.1.1, h.2, h.1.1.2, h.1.2⟩⟩
            · rw [if_neg h4] at h; cases h
theorem stF_form {l : List Nd} {s : List Itm} (h : stF l s = true) : ∀ y ∈ s, HdF l y := fun y hy => itF_iff (List.all_eq_true.1 h y hy)
/-- A start. -/
theorem start14_any (l : List Nd) (A : Option Addr) (c : Nat) (hl : l.length ≤ 1073741824) (w : World) :
    Calls Try.prog 11 #[.agg #[.slice A l.length c]] w (fun e w' => ∃ v, e = .returned v ∧ StV (stL l) v w' ∧ Below w.heap.size w w') := by
  have hb1 := (Below.refl w.heap.size w).alloc (Nat.le_refl _) (.cells #[.slice A l.length c] 24)
  have HK := Lib.hid (Blk.new w #[.slice A l.length c] 24)
  have HB := Lib.hid hb1
  clear hb1
  go_enter Try.func11, Try.ntmps11
  go_upto_region 1 with (fail)
  generalize w.alloc (.cells #[.slice A l.length c] 24) = w1 at *
  have e0 := HK.out.cell 0
  simp at e0
  have hbb := (Below.refl w1.heap.size w1).alloc (Nat.le_refl _) (.cells (itV ⟨1, (l.length : Int) - 1, 0, 0⟩) 43)
  have HN := Lib.hid (ItRow.one (p := ⟨1, (l.length : Int) - 1, 0, 0⟩) (Blk.new w1 (itV ⟨1, (l.length : Int) - 1, 0, 0⟩) 43))
  have HB2 := Lib.hid (HB.out.trans (hbb.mono HB.out.size))
  clear hbb
  go_wp2
  go_ret
  exact ⟨_, rfl, ⟨_, 1, rfl, by unfold stL; simp, HN.out⟩, HB2.out⟩
end Go.Proofs.Ytgabifebcfgngaa
/- The twin's Add, as a loop: the plain mathematics. -/
namespace Go.Proofs.Ytgabifebcfgngaa
open Go Go.RowKit
set_option linter.unusedVariables false
set_option linter.unusedSimpArgs false

/-- One round. -/
def adR (s : List Itm) (m : Nat) (p : Brs × Bool) (a : List Itm × Nat) : Brs × Bool :=
  if stC s a.1 = 0 then (p.1 ++ [(s, min 2 (a.2 + m))], true)
  else if stC s a.1 < 0 ∧ p.2 = false then ((p.1 ++ [(s, m)]) ++ [a], true)
  else (p.1 ++ [a], p.2)
def adS (s : List Itm) (m : Nat) (T : Brs) : Brs × Bool := T.foldl (adR s m) ([], false)
theorem ad_done {s : List Itm} {m : Nat} : ∀ {L P : Brs}, (∀ a ∈ L, stC s a.1 = -1) → L.foldl (adR s m) (P, true) = (P ++ L, true)
  | [], P, _ => by simp
  | a :: L, P, h => by
    have h1 := h a (List.mem_cons_self ..)
    rw [List.foldl_cons, show adR s m (P, true) a = (P ++ [a], true) by unfold adR; rw [if_neg (by omega), if_neg (by simp)], ad_done fun b hb => h b (List.mem_cons_of_mem _ hb)]
    simp
def adE (s : List Itm) (m : Nat) (p : Brs × Bool) : Brs := if p.2 = true then p.1 else p.1 ++ [(s, m)]
theorem ad_all {s : List Itm} {m : Nat} : ∀ {L P : Brs}, HdSrt L → adE s m (L.foldl (adR s m) (P, false)) = P ++ addB L s m
  | [], P, _ => by unfold adE; simp [addB]
  | (t, k) :: L, P, h => by
    obtain ⟨h1, h2⟩ := List.pairwise_cons.1 h
    simp only at h1
    rw [List.foldl_cons]
    by_cases e : s = t
    · subst e
      rw [show adR s m (P, false) (s, k) = (P ++ [(s, min 2 (k + m))], true) by unfold adR; rw [if_pos (stC_self s)], ad_done h1]
      unfold adE addB
      simp
    · have h0 : ¬ stC s t = 0 := fun q => e ((stC_zero s t).1 q)
      by_cases g : stC s t = -1
      · rw [show adR s m (P, false) (t, k) = ((P ++ [(s, m)]) ++ [(t, k)], true) by unfold adR; rw [if_neg h0, if_pos ⟨by simp only; omega, rfl⟩], ad_done fun b hb => stC_trans g (h1 b hb)]
        unfold adE addB
        rw [if_neg e, if_pos g]
        simp
      · have g1 : stC s t = 1 := by rcases stC_three s t with q | q | q <;> first | exact absurd q g | exact absurd q h0 | exact q
        rw [show adR s m (P, false) (t, k) = (P ++ [(t, k)], false) by unfold adR; rw [if_neg h0, if_neg (by simp only; omega)], ad_all h2]
        conv => rhs; unfold addB
        rw [if_neg e, if_neg g]
        simp
theorem ad_is {s : List Itm} {m : Nat} {T : Brs} (h : HdSrt T) : adE s m (adS s m T) = addB T s m := by
  have := ad_all (s := s) (m := m) (P := []) h
  rw [List.nil_append] at this; exact this
theorem ad_step {s : List Itm} {m : Nat} {D : List HdE} {j : Nat} (hj : j < D.length) : adS s m ((D.take (j + 1)).map brS) = adR s m (adS s m ((D.take j).map brS)) (brS (D.getD j hd0)) := by
  have hg : D.getD j hd0 = D[j] := by rw [List.getD_eq_getElem?_getD, List.getElem?_eq_getElem hj]; rfl
  rw [List.take_succ_eq_append_getElem hj, List.map_append, hg]
  unfold adS
  rw [List.foldl_append]
  rfl
theorem ad_len {s : List Itm} {m : Nat} : ∀ {L : Brs} {p : Brs × Bool}, (L.foldl (adR s m) p).1.length ≤ p.1.length + 2 * L.length
  | [], p => by simp
  | a :: L, p => by
    have h1 := ad_len (s := s) (m := m) (L := L) (p := adR s m p a)
    have h2 : (adR s m p a).1.length ≤ p.1.length + 2 := by unfold adR; (repeat' split) <;> simp
    rw [List.foldl_cons, List.length_cons]; omega
end Go.Proofs.Ytgabifebcfgngaa
/- The statement HeadsReady: its mathematics. -/
namespace Go.Proofs.Ytgabifebcfgngaa
open Go Go.RowKit
set_option linter.unusedVariables false
set_option linter.unusedSimpArgs false

theorem hd_mem {D : List HdE} {j : Nat} (hj : j < D.length) : D.getD j hd0 ∈ D := by
  rw [List.getD_eq_getElem?_getD, List.getElem?_eq_getElem hj]; exact List.getElem_mem hj
theorem hd_here {D : List HdE} {j : Nat} (hj : j < D.length) : D[j]? = some (D.getD j hd0) := by
  rw [List.getD_eq_getElem?_getD, List.getElem?_eq_getElem hj]; rfl
end Go.Proofs.Ytgabifebcfgngaa
