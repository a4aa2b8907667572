/- Counting: a Kid told. -/
import Derived.Test.YtpbbokdmoaadfaaM32
namespace Go.Proofs.Ytpbbokdmoaadfaa
set_option maxHeartbeats 64000000
set_option maxRecDepth 1000000
set_option linter.all false
open Go Go.RowKit
theorem plF_snoc {F : Nat -> Nat} {M : List (Nat × Nat)} {p : Nat × Nat} : ∀ {Z : Nat}, plF Z F = M ++ [p] -> p.1 < Z /\ F p.1 = p.2 /\ p.2 ≠ 0 /\ M = plF p.1 F /\ ∀ r, p.1 < r -> r < Z -> F r = 0
 | 0, h => by
  have : (plF 0 F).length = (M ++ [p]).length := by rw [h]
  rw [show (plF 0 F).length = 0 from rfl] at this; simp at this
 | Z + 1, h => by
  rw [plF_succ] at h
  by_cases h0 : F Z = 0
  ·rw [if_pos h0, List.append_nil] at h
   obtain ⟨h1, h2, h3, h4, h5⟩ := plF_snoc h
   refine ⟨by omega, h2, h3, h4, fun r hr1 hr2 => ?_⟩
   by_cases e : r = Z
   ·rw [e]; exact h0
   ·exact h5 r hr1 (by omega)
  ·rw [if_neg h0] at h
   obtain ⟨h1, h2⟩ := List.append_inj' h rfl
   have h2 := List.singleton_inj.1 h2
   subst h2
   exact ⟨Nat.lt_succ_self _, rfl, h0, h1.symm, fun r hr1 hr2 => by simp only at hr1; omega⟩
theorem fnd_take {F : Nat -> Nat} {n tt k : Nat} (h : Fnd (plF n F) tt k) (ht : tt <= n) : (plF n F).take k = plF tt F := by
 refine plF_of ((plF_rise (F := F) (n := n)).sublist (List.take_sublist _ _)) fun p => ⟨fun hp => ?_, fun ⟨h1, h2, h3⟩ => ?_⟩
 ·obtain ⟨j, hj, rfl⟩ := List.getElem_of_mem hp
  rw [List.length_take] at hj
  rw [List.getElem_take]
  have hl := h.lo j (by omega)
  rw [List.getD_eq_getElem?_getD, List.getElem?_eq_getElem (by omega)] at hl
  have hm := mem_plF.1 (List.getElem_mem (l := plF n F) (n := j) (by omega))
  exact ⟨hl, hm.2.1, hm.2.2⟩
 ·obtain ⟨j, hj, rfl⟩ := List.getElem_of_mem (mem_plF.2 ⟨by omega, h2, h3⟩ : p ∈ plF n F)
  by_cases hjk : j < k
  ·rw [List.mem_iff_getElem]
   exact ⟨j, by rw [List.length_take]; omega, by rw [List.getElem_take]⟩
  ·have hh := h.hi j (by omega) hj
   rw [List.getD_eq_getElem?_getD, List.getElem?_eq_getElem hj] at hh
   exact absurd h1 (by simp only [Option.getD_some] at hh; omega)
theorem plF_last {F : Nat -> Nat} {n Z k : Nat} (h : (plF n F).take (k + 1) = plF Z F) (hk : k < (plF n F).length) : ∃ q x, (plF n F).getD k (0, 0) = (q, x) /\ q < Z /\ F q = x /\ x ≠ 0 /\ (plF n F).take k = plF q F /\ ∀ r, q < r -> r < Z -> F r = 0 := by
 have e : (plF n F).take (k + 1) = (plF n F).take k ++ [(plF n F).getD k (0, 0)] := by
  rw [List.take_add_one, List.getD_eq_getElem?_getD, List.getElem?_eq_getElem hk]; rfl
 rw [e] at h
 obtain ⟨h1, h2, h3, h4, h5⟩ := plF_snoc h.symm
 exact ⟨_, _, rfl, h1, h2, h3, h4, h5⟩
theorem kid_take {C c x own rk : Nat} (hx : x = min 2 C) (ho : own = min 2 c) (hr : rk <= 1) (h : rk < x * own) : 0 < own /\ own <= 2 /\ rk = rk / own * c + rk % own /\ rk % own < c /\ rk / own < C /\ rk / own <= 1 := by
 have hx2 : x <= 2 := by omega
 have ho2 : own <= 2 := by omega
 have h0 : own = 0 \/ own = 1 \/ own = 2 := by omega
 have h1 : x = 0 \/ x = 1 \/ x = 2 := by omega
 have h2 : rk = 0 \/ rk = 1 := by omega
 rcases h0 with h0 | h0 | h0 <;> rcases h1 with h1 | h1 | h1 <;> rcases h2 with h2 | h2 <;> rw [h0, h1, h2] at h <;> rw [h0, h2] <;> simp at h ⊢
 all_goals omega
theorem kid_left {C c x own rk : Nat} (hx : x = min 2 C) (hx0 : x ≠ 0) (ho : own = min 2 c) (hr : rk <= 1) (h : ¬ rk < x * own) : x * own = C * c := by
 have h0 : own = 0 \/ own = 1 \/ own = 2 := by omega
 have h1 : x = 1 \/ x = 2 := by omega
 rcases h0 with h0 | h0 | h0 <;> rcases h1 with h1 | h1 <;> rw [h0, h1] at h ⊢
 all_goals first
  | (exfalso; omega)
  | (have hc : c = 0 := by omega
     subst hc; simp)
  | (have hc : c = 1 := by omega
     have hC : C = 1 := by omega
     subst hc; subst hC; rfl)
theorem sg_split {f : Nat -> Nat} {q : Nat} : ∀ {n : Nat}, q < n -> (∀ r, q < r -> r < n -> f r = 0) -> sg n f = sg q f + f q
 | 0, h, _ => by omega
 | n + 1, h, h0 => by
  rw [sg_succ]
  by_cases e : q = n
  ·rw [e]
  ·rw [sg_split (by omega) fun r h1 h2 => h0 r h1 (by omega), h0 n (by omega) (by omega)]; omega
theorem upS_eq {f : Nat -> Nat} {q : Nat} : ∀ {n : Nat}, q < n -> sg q f + f q + upS q n f = sg n f
 | 0, h => by omega
 | n + 1, h => by
  rw [sg_succ]
  unfold upS
  by_cases e : q = n
  ·subst e
   rw [show q + 1 - q - 1 = 0 by omega, sg_zero]; omega
  ·have := upS_eq (f := f) (q := q) (n := n) (by omega)
   unfold upS at this
   rw [show n + 1 - q - 1 = (n - q - 1) + 1 by omega, sg_succ, show q + 1 + (n - q - 1) = n by omega]; omega
abbrev kdf (l : List Nd) (i : Nat) (W : Wd) (tt : Nat) (C : Nat -> Nat) (p : Nat) : Nat := C p * cV l i W p tt
def WkdP (m : Nat) (l : List Nd) (V : Wd) (i : Nat) (W : Wd) (B g rb tt rk : Nat) (C : Nat -> Nat) (L : List VCl) (w0 : World) (e : Ending) (w : World) : Prop :=
 ∃ q r s v, q < tt /\ r <= 1 /\ r < C q /\ rk = upS q tt (kdf l i W tt C) + (r * cV l i W q tt + s) /\ (EN l i (sgW W q tt))[s]? = some v /\ TelP m l V B g rb q r v L w0 e w
theorem wkd_step {l : List Nd} {i : Nat} {W : Wd} {tt rk0 rk Z n k : Nat} {C : Nat -> Nat} (hF : Form l) (hi : i < l.length) (hk : k < (plF n fun p => min 2 (C p)).length) (h : (plF n fun p => min 2 (C p)).take (k + 1) = plF Z fun p => min 2 (C p)) (hZ : Z <= tt) (hr : rk <= 1) (hsum : rk0 + sg Z (kdf l i W tt C) = rk + sg tt (kdf l i W tt C)) :
 ∃ q x, (plF n fun p => min 2 (C p)).getD k (0, 0) = (q, x) /\ q < tt /\ x <= 2 /\ x ≠ 0 /\ rowV l i W q tt <= 2 /\
   (rk < x * rowV l i W q tt -> 0 < rowV l i W q tt /\ ∃ v, rk / rowV l i W q tt <= 1 /\ rk / rowV l i W q tt < C q /\ rk0 = upS q tt (kdf l i W tt C) + (rk / rowV l i W q tt * cV l i W q tt + rk % rowV l i W q tt) /\ (EN l i (sgW W q tt))[rk % rowV l i W q tt]? = some v) /\
   (¬ rk < x * rowV l i W q tt -> (plF n fun p => min 2 (C p)).take k = plF q (fun p => min 2 (C p)) /\ rk0 + sg q (kdf l i W tt C) = (rk - x * rowV l i W q tt) + sg tt (kdf l i W tt C)) := by
 obtain ⟨q, x, h1, h2, h3, h4, h5, h6⟩ := plF_last h hk
 have hz : ∀ r, q < r -> r < Z -> kdf l i W tt C r = 0 := fun r hr1 hr2 => by
  have : C r = 0 := by have := h6 r hr1 hr2; omega
  unfold kdf; rw [this, Nat.zero_mul]
 have hs := sg_split h2 hz
 have hu := upS_eq (f := kdf l i W tt C) (show q < tt by omega)
 have hc := rowV_cV (l := l) (i := i) (W := W) (a := q) (b := tt)
 have hle : rowV l i W q tt <= 2 := rowV_le
 refine ⟨q, x, h1, by omega, by rw [<- h3]; omega, h4, hle, fun hlt => ?_, fun hge => ?_⟩
 ·obtain ⟨k1, k2, k3, k4, k5, k6⟩ := kid_take h3.symm hc hr hlt
  have hlen : (EN l i (sgW W q tt)).length = cV l i W q tt := by
   rw [EN_length hF hi]; unfold cV; rw [if_pos (by omega)]
  refine ⟨k1, (EN l i (sgW W q tt))[rk % rowV l i W q tt]'(by omega), k6, k5, by omega, List.getElem?_eq_getElem _⟩
 ·have hk2 := kid_left h3.symm h4 hc hr hge
  have hk3 : kdf l i W tt C q = x * rowV l i W q tt := hk2.symm
  exact ⟨h5, by omega⟩
theorem Wk.rank {B g rb tt rk : Nat} {tv : Value} {L : List VCl} {w : World} (h : Wk B g rb tt rk tv L w) (r : Nat) : Wk B g rb tt r tv L (w.setCell ⟨g, 2, none⟩ (.int .i64 (r : Int))) := by
 have hs : (w.setCell ⟨g, 2, none⟩ (.int .i64 (r : Int))).heap.size = w.heap.size := by simp [World.setCell]
 refine ⟨by simpa using h.blk.setCell 2 (.int .i64 (r : Int)), h.low, ?_, fun y hy => ⟨(h.kids y hy).1, (h.kids y hy).2.blocks (by rw [hs]; exact Nat.le_refl _) fun b hb _ => Below.heap_setCell _ _ _ _ hb.2.2⟩⟩
 obtain ⟨h0, h1 | ⟨gt, cap', cur, hv, hb, hg, hr⟩⟩ := h.own
 ·exact ⟨h0, .inl h1⟩
 ·have hne : gt ≠ g := fun e => by
   subst e
   have hk := h.blk
   unfold Blk at hk
   rw [hg] at hk
   have h8 := Option.some.inj hk
   injection h8 with _ h9
   exact absurd h9 (by decide)
  exact ⟨h0, .inr ⟨gt, cap', cur, hv, hb, (Below.heap_setCell _ _ _ _ hne).trans hg, hr⟩⟩
structure WkL (m : Nat) (A : Option Addr) (l : List Nd) (c : Nat) (u : Value) (W V : Wd) (rb B g tt rk : Nat) (tv : Value) (L : List VCl) (Al : Option Addr) (cl : Nat) (S : List (Nat × Nat)) (w0 : World) (w : World) : Prop where
 t : TlS m A l c u W V rb B g tt rk tv L w0 w
 row : RcRow w Al S
structure WkT (m : Nat) (A : Option Addr) (l : List Nd) (c : Nat) (u : Value) (W V : Wd) (rb B g tt rk : Nat) (tv : Value) (L : List VCl) (Al : Option Addr) (cl : Nat) (S : List (Nat × Nat)) (w0 : World) (w : World) : Prop where
 t : TlT m A l c u W V rb B g tt rk tv L w0 w
 row : RcRow w Al S
theorem WkT.later {m : Nat} {A : Option Addr} {l : List Nd} {c : Nat} {u : Value} {W V : Wd} {rb B g tt rk : Nat} {tv : Value} {L : List VCl} {Al : Option Addr} {cl : Nat} {S : List (Nat × Nat)} {w0 w w' : World} (h : WkT m A l c u W V rb B g tt rk tv L Al cl S w0 w) (hb : Below w.heap.size w w') : WkT m A l c u W V rb B g tt rk tv L Al cl S w0 w' := ⟨h.t.grow (.of_below hb), h.row.later hb⟩
def WkI (m : Nat) (A : Option Addr) (l : List Nd) (c : Nat) (u : Value) (W V : Wd) (i rb B g tt rk0 : Nat) (C : Nat -> Nat) (tv : Value) (L : List VCl) (Al : Option Addr) (cl : Nat) (w0 : World) (k : Value) (w : World) : Prop :=
 ∃ (kk rk Z : Nat), k = .int .i64 ((kk : Int) - 1) /\ kk <= (plF (W.length + 1) fun p => min 2 (C p)).length /\ rk <= 1 /\ Z <= tt /\ (plF (W.length + 1) fun p => min 2 (C p)).take kk = plF Z (fun p => min 2 (C p)) /\ rk0 + sg Z (kdf l i W tt C) = rk + sg tt (kdf l i W tt C) /\ WkT m A l c u W V rb B g tt rk tv L Al cl (plF (W.length + 1) fun p => min 2 (C p)) w0 w
theorem cwkid2_any {A : Option Addr} {l : List Nd} {c m : Nat} {V : Wd} {i : Nat} (hF : Form l) (hi : i < l.length) (hE : EndsC A l c m V i) (hV : ValC A l c m V i) (rb : Nat) (u : Value) (W : Wd) (B g tt rk : Nat) (tv : Value) (L : List VCl) (C : Nat -> Nat) (sv : Value) (wb w : World)
 (hb0 : Rdr rb A l c u W V m wb) (hbB : wb.heap.size <= B) (hk0 : Rk m l V B [] wb w) (hW : W <+: V) (hn : V.length <= 900) (hB : B <= w.heap.size) (hwk : Wk B g rb tt rk tv L w) (ht : tt <= W.length) (hrk : rk <= 1) (hL : L.length <= 1000000) (hs : IsR w sv (plF (W.length + 1) fun p => min 2 (C p))) (htot : rk < sg tt (kdf l i W tt C)) :
 Calls Try.prog 62 #[.pointer (some ⟨g, 0, none⟩), .int .i64 (i : Int), sv] w (fun e w' => WkdP m l V i W B g rb tt rk C L w e w' /\ St g w w') := by
 have hWn : W.length <= 900 := by obtain ⟨t, rfl⟩ := hW; simp at hn; omega
 have hr := hb0.at_ hbB hk0
 have HRD : Hid (∀ w', Rk m l V B [] w w' -> Rdr rb A l c u W V m w') := fun w' k => hb0.at_ hbB (hk0.then k)
 obtain ⟨Al, cl, rfl, hlc, hrow⟩ := hs
 have hpl := plF_length (F := fun p => min 2 (C p)) (n := W.length + 1)
 have HC := Lib.hid (cfind_any (plF (W.length + 1) fun p => min 2 (C p)) Al cl tt plF_rise (by omega) (fun p hp => by have := (mem_plF.1 hp).1; omega) (by omega) w hrow)
 have HS0 : Hid (WkT m A l c u W V rb B g tt rk tv L Al cl (plF (W.length + 1) fun p => min 2 (C p)) w w) := ⟨⟨.refl w B, hB, hr, hwk, St.refl g w⟩, hrow⟩
 have HTOT := Lib.hid htot
 have HWW := Lib.hid hW
 have HE := Lib.hid hE
 have HV := Lib.hid hV
 have HFI : Hid (Form l /\ i < l.length) := ⟨hF, hi⟩
 have t1 := hwk.blk.cell 1
 simp at t1
 clear hr hb0 hbB hk0 hW hwk hrow htot hE hV hF hi
 go_enter Try.func62, Try.ntmps62
 go_wp2_with fail
 refine HC.out.mono ?_; rintro e w2 ⟨k0, hf0, rfl, hb2⟩
 have HS2 : Hid (WkI m A l c u W V i rb B g tt rk C tv L Al cl w (.int .i64 ((k0 : Int) - 1)) w2) := ⟨k0, rk, tt, rfl, hf0.le, hrk, Nat.le_refl _, fnd_take hf0 (by omega), rfl, HS0.out.later hb2⟩
 have hk0z : (k0 : Int) <= 901 := by have := hf0.le; omega
 clear hf0 hb2 t1 HC HS0
 go_wp2
 go_loopw [6] (WkI m A l c u W V i rb B g tt rk C tv L Al cl w) (fun x _ => (intOf x + 1).toNat)
 case atStart => exact HS2.out
 case round =>
  obtain ⟨kk, r1, Z, rfl, hkk, hr1, hZ, htk, hsum, hst⟩ := hrel
  have HST := Lib.hid hst
  clear hst HS2
  cases kk with
  | zero =>
   exfalso
   rw [List.take_zero] at htk
   have h0 := plF_empty htk.symm
   have : sg Z (kdf l i W tt C) = 0 := sg_nil fun p hp => by
    have := h0 p hp
    have : C p = 0 := by omega
    unfold kdf; rw [this, Nat.zero_mul]
   have := HTOT.out
   omega
  | succ k =>
   have hkl : k < (plF (W.length + 1) fun p => min 2 (C p)).length := by omega
   obtain ⟨q, x, hq1, hq2, hx2, hx0, how, hlt1, hge1⟩ := wkd_step HFI.out.1 HFI.out.2 hkl htk hZ hr1 hsum
   obtain ⟨bl, ol, hA, hblt, hc⟩ := HST.out.row.two (by intro e; rw [e] at hkl; simp at hkl)
   subst hA
   have hcq : ∀ w' , RcRow w' (some ⟨bl, ol, none⟩) (plF (W.length + 1) fun p => min 2 (C p)) -> w'.cell? ⟨bl, ol + k * 2, none⟩ = some (.int .i64 (q : Int)) /\ w'.cell? ⟨bl, ol + k * 2 + 1, none⟩ = some (.int .i64 (x : Int)) := fun w' hrw => by
    obtain ⟨b', o', hA', -, hc'⟩ := hrw.two (by intro e; rw [e] at hkl; simp at hkl)
    cases hA'
    have := hc' k hkl
    rw [hq1] at this
    exact this
   have HCQ := Lib.hid hcq
   have HLT := Lib.hid hlt1
   have HGE := Lib.hid hge1
   have HWY := Lib.hid (fun (w' : World) (hr' : Rdr rb A l c u W V m w') => cways_any HE.out rb u W q tt w' hr' HWW.out hn (by omega) ht)
   have hkz : (k : Int) < ((plF (W.length + 1) fun p => min 2 (C p)).length : Int) := by omega
   have hkz0 : ¬ (k : Int) < 0 := by omega
   have hkge : ¬ (((k + 1 : Nat) : Int) - 1 < 0) := by omega
   have hke : (((k + 1 : Nat) : Int) - 1) = (k : Int) := by omega
   have hk9 : (k : Int) <= 901 := by omega
   rw [hke]
   obtain ⟨own, hown⟩ : ∃ own, rowV l i W q tt = own := ⟨_, rfl⟩
   rw [hown] at HLT HGE HWY how
   have hxo : x * own <= 2 * 2 := Nat.mul_le_mul hx2 how
   obtain ⟨xo, hxoe⟩ : ∃ xo, x * own = xo := ⟨_, rfl⟩
   have hxoz : (x : Int) * (own : Int) = (xo : Int) := by rw [<- hxoe]; exact (Int.natCast_mul x own).symm
   rw [hxoe] at HLT HGE hxo
   have HXR := Lib.hid hx2
   clear hc hcq hlt1 hge1 hq1 htk hsum hown hxoe hke hkge
   generalize hSe : (plF (W.length + 1) fun p => min 2 (C p)) = S at *
   have HSE := Lib.hid hSe
   clear hSe
   generalize hln : S.length = ln at *
   have HLN := Lib.hid hln
   clear hln
   go_upto_region 4 with (fail)
   refine wp_region_stable_tail 14 (S := (WkT m A l c u W V rb B g tt r1 tv L (some ⟨bl, ol, none⟩) cl S w)) (hSt := fun _ _ h hb => h.later hb) (plan := [[(0, none)], [(25, some 0)], [(26, some 1)], [(27, some 2)], [(1, none)], [(2, none)], [(6, none)], [(30, some 5), (31, some 6)], [(32, some 7)], [(33, some 8)], [(0, none)], [(35, some 10)], [(36, some 11)], [(37, some 12)]]) rfl rfl (by kernel_rfl) (by kernel_rfl) (by kernel_rfl) (by kernel_rfl) ?hS ?_
   rotate_left
   iterate 14 first
    | (refine chain_skip (by rfl) (by rfl) ?_)
    | (apply chain_want (by rfl)
       ·intro act wx hS hr
        simp at hr
        have t0 := hS.t.wk.blk.cell 0
        have t1 := hS.t.wk.blk.cell 1
        have t2 := hS.t.wk.blk.cell 2
        simp at t0 t1 t2
        have d0 := (HCQ.out _ hS.row).1
        go_simp
        (try go_ints)
        first
         | exact Done.same
      )
   show ∀ w', _ -> _
   intro w8 hw8
   simp [Act.put]
   case hS => exact HST.out
   have HX8 := Lib.hid hw8
   have HC := Lib.hid (HWY.out w8 hw8.t.rd)
   clear hw8 HST HWY
   go_wp2_with fail
   refine HC.out.mono ?_; rintro e9 w9 ⟨rfl, hrk9⟩
   have hkc := hrk9.kc ⟨_, HX8.out.t.rd.kept⟩
   have HX9 : Hid (WkT m A l c u W V rb B g tt r1 tv L (some ⟨bl, ol, none⟩) cl S w w9) := ⟨HX8.out.t.grow hrk9, hkc.rrow HX8.out.row⟩
   have d1 := (HCQ.out _ HX9.out.row).2
   have d0 := (HCQ.out _ HX9.out.row).1
   have t2 := HX9.out.t.wk.blk.cell 2
   simp at t2
   clear hkc hrk9 HC HX8
   by_cases hcmp : r1 < xo
   ·obtain ⟨ho0, v, k1, k2, k3, k4⟩ := HLT.out hcmp
    have hcz : (r1 : Int) < (xo : Int) := by omega
    have HT := Lib.hid (ctell2_any HV.out rb u W B g tt r1 tv L q own v w9 HX9.out.t.rd HWW.out HX9.out.t.low HX9.out.t.wk (by omega) ht hr1 ho0 how hL k4)
    have HK : Hid (∀ e w', TelP m l V B g rb q (r1 / own) v L w9 e w' /\ St g w9 w' -> WkdP m l V i W B g rb tt rk C L w e w' /\ St g w w') := fun e w' hT => by
     obtain ⟨⟨tv', x', h1, h2, h3, h4⟩, h5⟩ := hT
     exact ⟨⟨q, _, _, v, hq2, k1, k2, k3, k4, tv', x', h1, h2, h3, HX9.out.t.kp.then h4⟩, HX9.out.t.st.trans h5⟩
    clear k1 k2 k3 k4 HLT HGE
    go_wp2_with fail
    refine HT.out.mono ?_; rintro e w10 ⟨⟨tv', x', rfl, h1, h2, h3⟩, h5⟩
    have HD := Lib.hid (HK.out _ w10 ⟨⟨tv', x', rfl, h1, h2, h3⟩, h5⟩)
    clear h1 h2 h3 h5 HT HK HX9 t2 d0 d1
    go_wp2
    refine bodyPost_ret (results_none rfl _ _ _) rfl ?_
    exact HD.out
   ·have hge := HGE.out hcmp
    have hcz : ¬ (r1 : Int) < (xo : Int) := by omega
    have hsz : (r1 : Int) - (xo : Int) = ((r1 - xo : Nat) : Int) := by omega
    have hr2 : r1 - xo <= 1 := by omega
    have f2 := HX9.out.t.wk.blk.frozen 2
    have HN : Hid (WkI m A l c u W V i rb B g tt rk C tv L (some ⟨bl, ol, none⟩) cl w (.int .i64 ((k : Int) - 1)) (w9.setCell ⟨g, 2, none⟩ (.int .i64 ((r1 - xo : Nat) : Int)))) := by
     have hb := HX9.out.t.wk.blk
     have hs : (w9.setCell ⟨g, 2, none⟩ (.int .i64 ((r1 - xo : Nat) : Int))).heap.size = w9.heap.size := by simp [World.setCell]
     have hrk : Rk m l V B [] w (w9.setCell ⟨g, 2, none⟩ (.int .i64 ((r1 - xo : Nat) : Int))) := HX9.out.t.kp.setT hb (by decide) HX9.out.t.wk.low 2 _
     refine ⟨k, r1 - xo, q, rfl, ?_, hr2, by omega, ?_, ?_, ⟨⟨hrk, by rw [hs]; exact HX9.out.t.low, HRD.out _ hrk, HX9.out.t.wk.rank _, HX9.out.t.st.set _ _⟩, ?_⟩⟩
     ·rw [HSE.out, HLN.out]; omega
     ·rw [HSE.out]; exact hge.1
     ·exact hge.2
     ·rw [HSE.out]
      refine HX9.out.row.keep fun b' cur' hb' => hb'.setCell_ne (a := ⟨g, 2, none⟩) (fun e => ?_) _
      have e : g = b' := e
      subst e
      unfold Blk at hb hb'
      rw [hb] at hb'
      have h8 := Option.some.inj hb'
      injection h8 with _ h9
      exact absurd h9 (by decide)
    generalize r1 - xo = r2 at *
    clear HLT HGE HX9 hge
    go_wp2
    go_roundw
    case rel => exact HN.out
    case measure => simp [intOf]
theorem cwkid_any {A : Option Addr} {l : List Nd} {c m : Nat} {V : Wd} {i : Nat} (hF : Form l) (hi : i < l.length) (hE : EndsC A l c m V i) (hV : ValC A l c m V i) (rb : Nat) (u : Value) (W : Wd) (B g tt rk : Nat) (tv : Value) (L : List VCl) (C : Nat -> Nat) (sv : Value) (wb w : World)
 (hb0 : Rdr rb A l c u W V m wb) (hbB : wb.heap.size <= B) (hk0 : Rk m l V B [] wb w) (hW : W <+: V) (hn : V.length <= 900) (hB : B <= w.heap.size) (hwk : Wk B g rb tt rk tv L w) (ht : tt <= W.length) (hrk : rk <= 1) (hL : L.length <= 1000000) (hs : IsR w sv (plF (W.length + 1) fun p => min 2 (C p))) (htot : rk < sg tt (kdf l i W tt C)) :
 Calls Try.prog 62 #[.pointer (some ⟨g, 0, none⟩), .int .i64 (i : Int), sv] w (WkdP m l V i W B g rb tt rk C L w) :=
 (cwkid2_any hF hi hE hV rb u W B g tt rk tv L C sv wb w hb0 hbB hk0 hW hn hB hwk ht hrk hL hs htot).mono fun e w' h => h.1
def wn (lo hi : Nat) (F : Nat -> Nat) (p : Nat) : Nat := if lo <= p /\ p < hi then F p else 0
theorem sg_wn {f : Nat -> Nat} {lo : Nat} : ∀ {hi n : Nat}, lo <= hi -> hi <= n -> sg n (wn lo hi f) + sg lo f = sg hi f
 | 0, n, h, _ => by
  have : lo = 0 := by omega
  subst this
  rw [sg_nil fun k _ => by unfold wn; rw [if_neg (by omega)]]; rfl
 | hi + 1, n, h, hn => by
  by_cases e : lo = hi + 1
  ·subst e
   rw [sg_nil fun k _ => by unfold wn; rw [if_neg (by omega)]]; omega
  ·rw [sg_up (n := hi + 1) hn fun k h1 _ => by unfold wn; rw [if_neg (by omega)], sg_succ, sg_succ]
   have ih := sg_wn (f := f) (lo := lo) (hi := hi) (n := hi) (by omega) (Nat.le_refl _)
   have e1 : sg hi (wn lo (hi + 1) f) = sg hi (wn lo hi f) := sg_congr fun k hk => by
    unfold wn
    by_cases h2 : lo <= k
    ·rw [if_pos ⟨h2, by omega⟩, if_pos ⟨h2, hk⟩]
    ·rw [if_neg (by omega), if_neg (by omega)]
   have e2 : wn lo (hi + 1) f hi = f hi := by unfold wn; rw [if_pos ⟨by omega, by omega⟩]
   omega
theorem take_rise {M : List (Nat × Nat)} (hM : M.Pairwise fun p q => p.1 < q.1) {h : Nat} (hh : h < M.length) (p : Nat × Nat) : (p ∈ M.take h ↔ p ∈ M /\ p.1 < (M.getD h (0, 0)).1) /\ (p ∈ M.drop h ↔ p ∈ M /\ (M.getD h (0, 0)).1 <= p.1) := by
 have key : ∀ j (hj : j < M.length), (j < h ↔ (M[j]).1 < (M.getD h (0, 0)).1) := fun j hj => by
  have hg : M.getD j (0, 0) = M[j] := by rw [List.getD_eq_getElem?_getD, List.getElem?_eq_getElem hj]; rfl
  rw [<- hg]
  constructor
  ·intro h1; exact rise_get hM h1 hh
  ·intro h1
   by_cases h2 : j < h
   ·exact h2
   ·exfalso
    by_cases h3 : j = h
    ·subst h3; omega
    ·have := rise_get hM (show h < j by omega) hj; omega
 constructor
 ·constructor
  ·intro hp
   obtain ⟨j, hj, rfl⟩ := List.getElem_of_mem hp
   rw [List.length_take] at hj
   rw [List.getElem_take]
   exact ⟨List.getElem_mem _, (key j (by omega)).1 (by omega)⟩
  ·rintro ⟨hp, h1⟩
   obtain ⟨j, hj, rfl⟩ := List.getElem_of_mem hp
   rw [List.mem_iff_getElem]
   have := (key j hj).2 h1
   exact ⟨j, by rw [List.length_take]; omega, by rw [List.getElem_take]⟩
 ·constructor
  ·intro hp
   obtain ⟨j, hj, rfl⟩ := List.getElem_of_mem hp
   rw [List.length_drop] at hj
   rw [List.getElem_drop]
   refine ⟨List.getElem_mem _, ?_⟩
   have := (key (h + j) (by omega))
   by_cases h2 : (M[h + j]).1 < (M.getD h (0, 0)).1
   ·have := this.2 h2; omega
   ·omega
  ·rintro ⟨hp, h1⟩
   obtain ⟨j, hj, rfl⟩ := List.getElem_of_mem hp
   have := key j hj
   have hjh : h <= j := by
    by_cases h2 : j < h
    ·have := this.1 h2; omega
    ·omega
   rw [List.mem_iff_getElem]
   exact ⟨j - h, by rw [List.length_drop]; omega, by rw [List.getElem_drop]; congr 1; omega⟩
theorem plF_cut {F : Nat -> Nat} {n lo hi h : Nat} (hh : h < (plF n (wn lo hi F)).length) : ∃ mid, lo <= mid /\ mid < hi /\ (plF n (wn lo hi F)).take h = plF n (wn lo mid F) /\ (plF n (wn lo hi F)).drop h = plF n (wn mid hi F) := by
 have hM := plF_rise (F := wn lo hi F) (n := n)
 have hm := mem_plF.1 (getD_mem0 (d := (0, 0)) hh)
 obtain ⟨h1, h2, h3⟩ := hm
 obtain ⟨mid, hmid⟩ : ∃ mid, ((plF n (wn lo hi F)).getD h (0, 0)).1 = mid := ⟨_, rfl⟩
 have hw : lo <= mid /\ mid < hi := by
  rw [<- hmid]
  unfold wn at h2
  split at h2
  ·assumption
  ·exact absurd h2.symm h3
 have hin : ∀ (lo' hi' : Nat) (p : Nat × Nat), lo <= lo' -> hi' <= hi -> ((p.1 < n /\ wn lo' hi' F p.1 = p.2 /\ p.2 ≠ 0) ↔ (p.1 < n /\ wn lo hi F p.1 = p.2 /\ p.2 ≠ 0) /\ lo' <= p.1 /\ p.1 < hi') := fun lo' hi' p hl hh' => by
  unfold wn
  by_cases hc : lo' <= p.1 /\ p.1 < hi'
  ·rw [if_pos hc, if_pos ⟨by omega, by omega⟩]; exact ⟨fun h => ⟨h, hc⟩, fun h => h.1⟩
  ·rw [if_neg hc]
   exact ⟨fun h => absurd h.2.1.symm h.2.2, fun h => absurd h.2 hc⟩
 have hlo : ∀ p : Nat × Nat, (p.1 < n /\ wn lo hi F p.1 = p.2 /\ p.2 ≠ 0) -> lo <= p.1 /\ p.1 < hi := fun p hp => by
  unfold wn at hp
  split at hp
  ·assumption
  ·exact absurd hp.2.1.symm hp.2.2
 refine ⟨mid, hw.1, hw.2, plF_of (hM.sublist (List.take_sublist _ _)) fun p => ?_, plF_of (hM.sublist (List.drop_sublist _ _)) fun p => ?_⟩
 ·rw [(take_rise hM hh p).1, mem_plF, hmid, hin lo mid p (Nat.le_refl _) (by omega)]
  exact ⟨fun h => ⟨h.1, (hlo p h.1).1, h.2⟩, fun h => ⟨h.1, h.2.2⟩⟩
 ·rw [(take_rise hM hh p).2, mem_plF, hmid, hin mid hi p hw.1 (Nat.le_refl _)]
  exact ⟨fun h => ⟨h.1, h.2, (hlo p h.1).2⟩, fun h => ⟨h.1, h.2.1⟩⟩
theorem th_wn {l : List Nd} {i : Nat} {W : Wd} {tt lo hi : Nat} {C : Nat -> Nat} : thV l i W (wn lo hi fun p => min 2 (C p)) tt = min 2 (sg (W.length + 1) (wn lo hi (kdf l i W tt C))) := by
 unfold thV
 refine sg_sat fun j _ => ?_
 unfold wn kdf
 split
 ·rw [rowV_cV, sat_mul]
 ·rw [Nat.zero_mul]
theorem prt_step {l : List Nd} {i : Nat} {W : Wd} {tt rk0 rk lo hi : Nat} {C : Nat -> Nat} (hF : Form l) (hi0 : i < l.length) (hhi : hi <= W.length + 1) (hlh : lo <= hi) (h1 : (plF (W.length + 1) (wn lo hi fun p => min 2 (C p))).length <= 1) (hr : rk <= 1) (hs : rk0 = rk + sg lo (kdf l i W tt C)) (hlt : rk < sg (W.length + 1) (wn lo hi (kdf l i W tt C))) :
 ∃ q x, plF (W.length + 1) (wn lo hi fun p => min 2 (C p)) = [(q, x)] /\ q <= tt /\ q <= W.length /\ 0 < rowV l i W q tt /\ rowV l i W q tt <= 2 /\ ∃ v, rk / rowV l i W q tt <= 1 /\ rk / rowV l i W q tt < C q /\ rk0 = sg q (kdf l i W tt C) + (rk / rowV l i W q tt * cV l i W q tt + rk % rowV l i W q tt) /\ (EN l i (sgW W q tt))[rk % rowV l i W q tt]? = some v := by
 have hne : (plF (W.length + 1) (wn lo hi fun p => min 2 (C p))).length = 1 := by
  rcases Nat.lt_or_ge 0 (plF (W.length + 1) (wn lo hi fun p => min 2 (C p))).length with h | h
  ·omega
  ·exfalso
   have h0 := plF_empty (List.length_eq_zero_iff.1 (Nat.le_zero.1 h))
   have : sg (W.length + 1) (wn lo hi (kdf l i W tt C)) = 0 := sg_nil fun k hk => by
    have := h0 k hk
    unfold wn at this ⊢
    split
    ·rename_i hc
     rw [if_pos hc] at this
     have : C k = 0 := by have h9 : min 2 (C k) = 0 := this; omega
     unfold kdf; rw [this, Nat.zero_mul]
    ·rfl
   omega
 obtain ⟨q, x, hp, hq, hx, hx0, hoth⟩ := one_plF hne
 have hwin : lo <= q /\ q < hi := by
  unfold wn at hx
  split at hx
  ·assumption
  ·exact absurd hx.symm hx0
 have hxc : min 2 (C q) = x := by unfold wn at hx; rw [if_pos hwin] at hx; exact hx
 have hz : ∀ k, k < W.length + 1 -> k ≠ q -> wn lo hi (kdf l i W tt C) k = 0 := fun k hk hkq => by
  have := hoth k hk
  rw [if_neg hkq] at this
  unfold wn at this ⊢
  split
  ·rename_i hc
   rw [if_pos hc] at this
   have : C k = 0 := by have h9 : min 2 (C k) = 0 := this; omega
   unfold kdf; rw [this, Nat.zero_mul]
  ·rfl
 have hsum : sg (W.length + 1) (wn lo hi (kdf l i W tt C)) = kdf l i W tt C q := by
  rw [sg_one hq hz]; unfold wn; rw [if_pos hwin]
 have hbel : sg lo (kdf l i W tt C) = sg q (kdf l i W tt C) := by
  have := sg_wn (f := kdf l i W tt C) (lo := lo) (hi := q) (n := W.length + 1) hwin.1 (by omega)
  have h0 : sg (W.length + 1) (wn lo q (kdf l i W tt C)) = 0 := sg_nil fun k hk => by
   by_cases hc : lo <= k /\ k < q
   ·have := hz k hk (by omega)
    unfold wn at this ⊢
    rw [if_pos ⟨hc.1, by omega⟩] at this
    rw [if_pos hc, this]
   ·unfold wn; rw [if_neg hc]
  omega
 have hc := rowV_cV (l := l) (i := i) (W := W) (a := q) (b := tt)
 have hcpos : 0 < cV l i W q tt := by
  rcases Nat.eq_zero_or_pos (cV l i W q tt) with h | h
  ·rw [hsum] at hlt; unfold kdf at hlt; rw [h, Nat.mul_zero] at hlt; omega
  ·exact h
 have hqt : q <= tt := by
  by_cases h : q <= tt
  ·exact h
  ·exfalso; unfold cV at hcpos; rw [if_neg h] at hcpos; omega
 have hmul : rk < x * rowV l i W q tt := by
  have h5 : min 2 (x * rowV l i W q tt) = min 2 (C q * cV l i W q tt) := by rw [hc, <- hxc, sat_mul]
  have h6 : rk < C q * cV l i W q tt := by rw [hsum] at hlt; exact hlt
  omega
 obtain ⟨k1, k2, k3, k4, k5, k6⟩ := kid_take hxc.symm hc hr hmul
 have hlen : (EN l i (sgW W q tt)).length = cV l i W q tt := by
  rw [EN_length hF hi0]; unfold cV; rw [if_pos hqt]
 exact ⟨q, x, hp, hqt, by omega, k1, k2, (EN l i (sgW W q tt))[rk % rowV l i W q tt]'(by omega), k6, k5, by omega, List.getElem?_eq_getElem _⟩
theorem RcRow.taken {w : World} {A : Option Addr} {M : List (Nat × Nat)} (h : RcRow w A M) (k : Nat) : RcRow w A (M.take k) := fun hne => by
 obtain ⟨b, off, cur, h1, h2, h3⟩ := h (fun e => hne (by rw [e, List.take_nil]))
 refine ⟨b, off, cur, h1, h2, fun i hi j hj => ?_⟩
 rw [List.length_take] at hi
 rw [h3 i (by omega) j hj, List.getD_eq_getElem?_getD, List.getD_eq_getElem?_getD, List.getElem?_take, if_pos (by omega)]
theorem RcRow.dropped {w : World} {b o : Nat} {M : List (Nat × Nat)} (h : RcRow w (some ⟨b, o, none⟩) M) (k : Nat) : RcRow w (some ⟨b, o + k * 2, none⟩) (M.drop k) := fun hne => by
 obtain ⟨b', off, cur, h1, h2, h3⟩ := h (fun e => hne (by rw [e, List.drop_nil]))
 cases h1
 refine ⟨b, o + k * 2, cur, rfl, h2, fun i hi j hj => ?_⟩
 rw [List.length_drop] at hi
 have := h3 (k + i) (by omega) j hj
 rw [show o + k * 2 + i * 2 + j = o + (k + i) * 2 + j by omega, this, List.getD_eq_getElem?_getD, List.getD_eq_getElem?_getD, List.getElem?_drop]
theorem WkL.grow {m : Nat} {A : Option Addr} {l : List Nd} {c : Nat} {u : Value} {W V : Wd} {rb B g tt rk : Nat} {tv : Value} {L : List VCl} {Al : Option Addr} {cl : Nat} {S : List (Nat × Nat)} {w0 w w' : World} (h : WkL m A l c u W V rb B g tt rk tv L Al cl S w0 w) (k : RkR m l V w w') : WkL m A l c u W V rb B g tt rk tv L Al cl S w0 w' := ⟨h.t.grow k, (k.kc ⟨_, h.t.rd.kept⟩).rrow h.row⟩
def RdV (m : Nat) (l : List Nd) (V : Wd) (L : List (Nat × Nat)) (v : Value) (w : World) : Prop := KeptX w m l V (fun _ => False) /\ IsR w v L
theorem RdV.grow (m : Nat) (l : List Nd) (V : Wd) (L : List (Nat × Nat)) : ∀ v w w', RdV m l V L v w -> RkR m l V w w' -> RdV m l V L v w' := fun v w w' ⟨h1, h2⟩ k =>
 ⟨(k.map _ (fun g hg => hg.elim) h1).less fun g hg => .inl hg, (k.kc ⟨_, h1⟩).isR h2⟩
theorem int_keep (m : Nat) (l : List Nd) (V : Wd) (x : Nat) : ∀ (v : Value) (w w' : World), v = .int .i64 (x : Int) -> RkR m l V w w' -> v = .int .i64 (x : Int) := fun _ _ _ h _ => h
def PrtP (m : Nat) (l : List Nd) (V : Wd) (i : Nat) (W : Wd) (B g rb tt rk : Nat) (C : Nat -> Nat) (L : List VCl) (w0 : World) (e : Ending) (w : World) : Prop :=
 ∃ q r s v, q <= tt /\ r <= 1 /\ r < C q /\ rk = sg q (kdf l i W tt C) + (r * cV l i W q tt + s) /\ (EN l i (sgW W q tt))[s]? = some v /\ TelP m l V B g rb q r v L w0 e w
def PtI (m : Nat) (A : Option Addr) (l : List Nd) (c : Nat) (u : Value) (W V : Wd) (i rb B g tt rk0 : Nat) (C : Nat -> Nat) (tv : Value) (L : List VCl) (w0 : World) (sv : Value) (w : World) : Prop :=
 ∃ (b o lo hi rk c' : Nat), sv = .slice (some ⟨b, o, none⟩) (plF (W.length + 1) (wn lo hi fun p => min 2 (C p))).length c' /\ (plF (W.length + 1) (wn lo hi fun p => min 2 (C p))).length <= c' /\ lo <= hi /\ hi <= W.length + 1 /\ rk <= 1 /\ rk0 = rk + sg lo (kdf l i W tt C) /\ rk < sg (W.length + 1) (wn lo hi (kdf l i W tt C)) /\
   WkL m A l c u W V rb B g tt rk tv L (some ⟨b, o, none⟩) c' (plF (W.length + 1) (wn lo hi fun p => min 2 (C p))) w0 w
theorem cpart_any {A : Option Addr} {l : List Nd} {c m : Nat} {V : Wd} {i : Nat} (hF : Form l) (hi : i < l.length) (hE : EndsC A l c m V i) (hR : ReadC A l c m V i) (hV : ValC A l c m V i) (rb : Nat) (u : Value) (W : Wd) (B g tt rk : Nat) (tv : Value) (L : List VCl) (C : Nat -> Nat) (sv : Value) (wb w : World)
 (hb0 : Rdr rb A l c u W V m wb) (hbB : wb.heap.size <= B) (hk0 : Rk m l V B [] wb w) (hW : W <+: V) (hn : V.length <= 900) (hB : B <= w.heap.size) (hwk : Wk B g rb tt rk tv L w) (ht : tt <= W.length) (hrk : rk <= 1) (hL : L.length <= 1000000) (hs : IsR w sv (plF (W.length + 1) fun p => min 2 (C p))) (htot : rk < sg (W.length + 1) (kdf l i W tt C)) :
 Calls Try.prog 60 #[.pointer (some ⟨g, 0, none⟩), .int .i64 (i : Int), sv] w (PrtP m l V i W B g rb tt rk C L w) := by
 have hWn : W.length <= 900 := by obtain ⟨t, rfl⟩ := hW; simp at hn; omega
 have hr := hb0.at_ hbB hk0
 have HRD : Hid (∀ w', Rk m l V B [] w w' -> Rdr rb A l c u W V m w') := fun w' k => hb0.at_ hbB (hk0.then k)
 obtain ⟨Al, cl, rfl, hlc, hrow⟩ := hs
 have hw0 : plF (W.length + 1) (fun p => min 2 (C p)) = plF (W.length + 1) (wn 0 (W.length + 1) fun p => min 2 (C p)) := plF_congr fun b hb => by unfold wn; rw [if_pos ⟨Nat.zero_le _, hb⟩]
 have hne : plF (W.length + 1) (fun p => min 2 (C p)) ≠ [] := fun e => by
  have h0 := plF_empty e
  have : sg (W.length + 1) (kdf l i W tt C) = 0 := sg_nil fun k hk => by
   have h9 : min 2 (C k) = 0 := h0 k hk
   have : C k = 0 := by omega
   unfold kdf; rw [this, Nat.zero_mul]
  omega
 obtain ⟨b0, o0, -, rfl, -, -⟩ := hrow hne
 have htw : sg (W.length + 1) (wn 0 (W.length + 1) (kdf l i W tt C)) = sg (W.length + 1) (kdf l i W tt C) := sg_congr fun k hk => by unfold wn; rw [if_pos ⟨Nat.zero_le _, hk⟩]
 have HS0 : Hid (PtI m A l c u W V i rb B g tt rk C tv L w (.slice (some ⟨b0, o0, none⟩) (plF (W.length + 1) fun p => min 2 (C p)).length cl) w) :=
  ⟨b0, o0, 0, W.length + 1, rk, cl, by rw [hw0], by rw [<- hw0]; exact hlc, Nat.zero_le _, Nat.le_refl _, hrk, rfl, by rw [htw]; exact htot, ⟨⟨.refl w B, hB, hr, hwk⟩, by rw [<- hw0]; exact hrow⟩⟩
 have HWW := Lib.hid hW
 have HE := Lib.hid hE
 have HV := Lib.hid hV
 have HRC := Lib.hid hR
 have HFI : Hid (Form l /\ i < l.length) := ⟨hF, hi⟩
 have hR2 : ∀ w w', Below w.heap.size w w' -> RkR m l V w w' := fun w w' => RkR.of m l V w w'
 have HR := Lib.hid hR2
 clear hr hb0 hbB hk0 hW hwk hrow htot hE hV hF hi hne hw0 htw hR hR2 hlc
 generalize (plF (W.length + 1) fun p => min 2 (C p)).length = ln0 at *
 go_enter Try.func60, Try.ntmps60
 go_wp2
 go_loopw [2] (PtI m A l c u W V i rb B g tt rk C tv L w) (fun x _ => match x with | .slice _ n _ => n | _ => 0)
 case atStart => exact HS0.out
 case round =>
  obtain ⟨b, o, lo, hi, r1, c', rfl, hlc', hlh, hhi, hr1, hsum, hlt, hst⟩ := hrel
  have HST := Lib.hid hst
  clear hst HS0
  have hpl := plF_length (F := wn lo hi fun p => min 2 (C p)) (n := W.length + 1)
  by_cases hone : (plF (W.length + 1) (wn lo hi fun p => min 2 (C p))).length <= 1
  ·obtain ⟨q, x, hM, hqt, hqW, ho0, ho2, v, k1, k2, k3, k4⟩ := prt_step HFI.out.1 HFI.out.2 hhi hlh hone hr1 hsum hlt
   rw [hM] at HST ⊢
   clear hM hone hpl hlt hlc'
   have HCQ : Hid (∀ w', RcRow w' (some ⟨b, o, none⟩) [(q, x)] -> w'.cell? ⟨b, o, none⟩ = some (.int .i64 (q : Int))) := fun w' hrw => by
    obtain ⟨b', o', hA', -, hc'⟩ := hrw.two (by simp)
    cases hA'
    exact (hc' 0 (by simp)).1
   have HWY := Lib.hid (fun (w' : World) (hr' : Rdr rb A l c u W V m w') => cways_any HE.out rb u W q tt w' hr' HWW.out hn hqW ht)
   obtain ⟨own, hown⟩ : ∃ own, rowV l i W q tt = own := ⟨_, rfl⟩
   rw [hown] at HWY ho0 ho2 k1 k2 k3 k4
   clear hown
   have HT : Hid (∀ w9, TlS m A l c u W V rb B g tt r1 tv L w w9 -> Calls Try.prog 74 #[.pointer (some ⟨g, 0, none⟩), .int .i64 (i : Int), .int .i64 (q : Int), .int .i64 (own : Int)] w9 (PrtP m l V i W B g rb tt rk C L w)) := fun w9 h9 =>
    (ctell_any HV.out rb u W B g tt r1 tv L q own v w9 h9.rd HWW.out h9.low h9.wk hqt ht hr1 ho0 ho2 hL k4).mono fun e w' hT => by
     obtain ⟨tv', x', h1, h2, h3, h4⟩ := hT
     exact ⟨q, _, _, v, hqt, k1, k2, k3, k4, tv', x', h1, h2, h3, h9.kp.then h4⟩
   clear k1 k2 k3 k4 ho0 ho2
   simp only [List.length_singleton]
   go_upto_region 7 with (fail)
   refine G.wp_region_stable_tail (R := (RkR m l V)) HR.out 20 (S := (WkL m A l c u W V rb B g tt r1 tv L (some ⟨b, o, none⟩) c' [(q, x)] w)) (hSt := fun _ _ h hr => h.grow hr) (plan := [[(0, none)], [(1, none)], [(2, none)], [(49, some 2)], [(50, some 3)], [(51, some 4)], [(0, none)], [(53, some 6)], [(54, some 7)], [(55, some 8)], [(1, none)], [(2, none)], [(58, some 11)], [(59, some 12)], [(60, some 13)], [(0, none)], [(62, some 15)], [(63, some 16)], [(64, some 17)], [(56, some 9), (57, some 10), (61, some 14), (65, some 18)]]) rfl rfl (by kernel_rfl) (by kernel_rfl) (by kernel_rfl) (by kernel_rfl) ?hS ?_
   rotate_left
   iterate 19 first
    | (refine G.chain_skip (by rfl) (by rfl) ?_)
    | (apply G.chain_want (by rfl)
       ·intro act wx hS hr
        simp at hr
        have t0 := hS.t.wk.blk.cell 0
        have t1 := hS.t.wk.blk.cell 1
        simp at t0 t1
        have d0 := HCQ.out _ hS.row
        go_simp
        (try go_ints)
        first
         | exact G.Done.same HR.out
      )
   (refine G.chain_rel (fun (v : Value) (_ : World) => v = .int .i64 (own : Int)) (int_keep m l V own) (by rfl) ?_ ?_
    ·intro act wx hS hr
     simp at hr
     have t0 := hS.t.wk.blk.cell 0
     have t1 := hS.t.wk.blk.cell 1
     simp at t0 t1
     have d0 := HCQ.out _ hS.row
     all_goals go_simp
     (refine (HWY.out wx hS.t.rd).mono ?_); rintro e w5 ⟨rfl, hk5⟩; exact G.Done.rel hk5 rfl
   )
   show ∀ w', _ -> _
   intro w8 hw8
   simp [Act.put]
   case hS => exact HST.out
   have HC := Lib.hid (HT.out w8 hw8.t)
   clear hw8 HST HT HWY HCQ
   go_wp2_with fail
   refine HC.out.mono ?_; rintro e w9 ⟨q', r', s', v', j1, j2, j3, j4, j5, tv', x', rfl, j6⟩
   have HD : Hid (PrtP m l V i W B g rb tt rk C L w (.returned (.tuple #[])) w9) := ⟨q', r', s', v', j1, j2, j3, j4, j5, tv', x', rfl, j6⟩
   clear j1 j2 j3 j4 j5 j6 HC
   go_wp2
   go_end0
   exact HD.out
  ·obtain ⟨len, hlen⟩ : ∃ len, (plF (W.length + 1) (wn lo hi fun p => min 2 (C p))).length = len := ⟨_, rfl⟩
   obtain ⟨h, hh⟩ : ∃ h, len / 2 = h := ⟨_, rfl⟩
   rw [hlen] at hone hlc' ⊢
   obtain ⟨mid, hm1, hm2, htk, hdp⟩ := plF_cut (F := fun p => min 2 (C p)) (n := W.length + 1) (lo := lo) (hi := hi) (h := h) (by omega)
   have hl1 : (plF (W.length + 1) (wn lo mid fun p => min 2 (C p))).length = h := by rw [<- htk, List.length_take]; omega
   have hl2 : (plF (W.length + 1) (wn mid hi fun p => min 2 (C p))).length = len - h := by rw [<- hdp, List.length_drop]; omega
   obtain ⟨x, hx⟩ : ∃ x, thV l i W (wn lo mid fun p => min 2 (C p)) tt = x := ⟨_, rfl⟩
   have hxs : x = min 2 (sg (W.length + 1) (wn lo mid (kdf l i W tt C))) := by rw [<- hx]; exact th_wn
   have hS1 := sg_wn (f := kdf l i W tt C) (lo := lo) (hi := mid) (n := W.length + 1) hm1 (by omega)
   have hS2 := sg_wn (f := kdf l i W tt C) (lo := mid) (hi := hi) (n := W.length + 1) (by omega) hhi
   have hS3 := sg_wn (f := kdf l i W tt C) (lo := lo) (hi := hi) (n := W.length + 1) hlh hhi
   have HLO : Hid (r1 < x -> ∀ w', WkL m A l c u W V rb B g tt r1 tv L (some ⟨b, o, none⟩) c' (plF (W.length + 1) (wn lo hi fun p => min 2 (C p))) w w' -> PtI m A l c u W V i rb B g tt rk C tv L w (.slice (some ⟨b, o, none⟩) h c') w') := fun hc w' hw' =>
    ⟨b, o, lo, mid, r1, c', by rw [hl1], by rw [hl1]; omega, hm1, by omega, hr1, hsum, by omega, ⟨hw'.t, by rw [<- htk]; exact hw'.row.taken h⟩⟩
   have HHI : Hid (¬ r1 < x -> ∀ w', WkL m A l c u W V rb B g tt r1 tv L (some ⟨b, o, none⟩) c' (plF (W.length + 1) (wn lo hi fun p => min 2 (C p))) w w' -> PtI m A l c u W V i rb B g tt rk C tv L w (.slice (some ⟨b, o + h * 2, none⟩) (len - h) (c' - h)) (w'.setCell ⟨g, 2, none⟩ (.int .i64 ((r1 - x : Nat) : Int)))) := fun hc w' hw' => by
    have hb := hw'.t.wk.blk
    have hs : (w'.setCell ⟨g, 2, none⟩ (.int .i64 ((r1 - x : Nat) : Int))).heap.size = w'.heap.size := by simp [World.setCell]
    have hrk2 : Rk m l V B [] w (w'.setCell ⟨g, 2, none⟩ (.int .i64 ((r1 - x : Nat) : Int))) := hw'.t.kp.setT hb (by decide) hw'.t.wk.low 2 _
    refine ⟨b, o + h * 2, mid, hi, r1 - x, c' - h, by rw [hl2], by rw [hl2]; omega, by omega, hhi, by omega, by omega, by omega, ⟨⟨hrk2, by rw [hs]; exact hw'.t.low, HRD.out _ hrk2, hw'.t.wk.rank _⟩, ?_⟩⟩
    rw [<- hdp]
    refine (hw'.row.dropped h).keep fun b' cur' hb' => hb'.setCell_ne (a := ⟨g, 2, none⟩) (fun e => ?_) _
    have e : g = b' := e
    subst e
    unfold Blk at hb hb'
    rw [hb] at hb'
    have h8 := Option.some.inj hb'
    injection h8 with _ h9
    exact absurd h9 (by decide)
   have HRE : Hid (∀ w', WkL m A l c u W V rb B g tt r1 tv L (some ⟨b, o, none⟩) c' (plF (W.length + 1) (wn lo hi fun p => min 2 (C p))) w w' -> Calls Try.prog 59 #[.pointer (some ⟨rb, 0, none⟩), .int .i64 (i : Int), .slice (some ⟨b, o, none⟩) h c'] w' (EndP m l V w' (plF (W.length + 1) (thV l i W (wn lo mid fun p => min 2 (C p)))))) := fun w' hw' =>
    HRC.out rb u W (wn lo mid fun p => min 2 (C p)) _ w' hw'.t.rd HWW.out (fun b => by
     unfold wn
     split
     ·exact Nat.min_le_left 2 _
     ·omega) ⟨_, c', by rw [hl1], by rw [hl1]; omega, by rw [<- htk]; exact hw'.row.taken h⟩
   have HWT : Hid (∀ v w', IsR w' v (plF (W.length + 1) (thV l i W (wn lo mid fun p => min 2 (C p)))) -> Calls Try.prog 44 #[v, .int .i64 (tt : Int)] w' (Ans w' (.int .i64 (x : Int)))) := fun v w' hv => by
    have := cwaysTo_any (W.length + 1) (thV l i W (wn lo mid fun p => min 2 (C p))) v tt (by omega) (by omega) w' hv
    rw [hx] at this
    exact this
   have hx2 : x <= 2 := by omega
   have hlenz : (len : Int) <= 901 := by omega
   have hcz : (h : Int) <= (c' : Int) := by omega
   have hlz : (h : Int) <= (len : Int) := by omega
   have hlcz : (len : Int) <= (c' : Int) := by omega
   have hl1z : (len : Int) > 1 := by omega
   have hh0 : ¬ (h : Int) < 0 := by omega
   have htd : (len : Int).tdiv 2 = (h : Int) := by rw [Int.tdiv_eq_ediv_of_nonneg (by omega)]; omega
   have htd2 : (len : Int) / 2 = (h : Int) := by omega
   have hch : ¬ c' = h := by omega
   have hchz : ¬ (c' : Int) = (h : Int) := by omega
   have hmeas : h < len /\ len - h < len := by omega
   clear hS1 hS2 hS3 hxs hx hl1 hl2 htk hdp hlt hsum hlen hh hm1 hm2 hpl hone hlc'
   generalize (plF (W.length + 1) (wn lo hi fun p => min 2 (C p))) = S at *
   generalize (plF (W.length + 1) (thV l i W (wn lo mid fun p => min 2 (C p)))) = T at *
   go_upto_region 2 with (fail)
   refine G.wp_region_stable (R := (RkR m l V)) HR.out (S := (WkL m A l c u W V rb B g tt r1 tv L (some ⟨b, o, none⟩) c' S w)) (hSt := fun _ _ h hr => h.grow hr) (plan := [[(0, none)], [(16, some 0)], [(17, some 1)], [(18, some 2)], [(1, none)], [(6, none)], [(19, some 3), (20, some 4), (21, some 5)], [(0, none)], [(23, some 7)], [(24, some 8)], [(25, some 9)], [(22, some 6), (26, some 10)], [(27, some 11)]]) (by kernel_rfl) (by kernel_rfl) (by kernel_rfl) ?hS ?_
   rotate_left
   iterate 6 first
    | (refine G.chain_skip (by rfl) (by rfl) ?_)
    | (apply G.chain_want (by rfl)
       ·intro act wx hS hr
        simp at hr
        have t0 := hS.t.wk.blk.cell 0
        have t1 := hS.t.wk.blk.cell 1
        simp at t0 t1
        have HRE1 := Lib.hid (HRE.out _ hS)
        go_simp
        (try go_ints)
        first
         | exact G.Done.same HR.out
      )
   (refine G.chain_rel (RdV m l V T) (RdV.grow m l V T) (by rfl) ?_ ?_
    ·intro act wx hS hr
     simp at hr
     have t0 := hS.t.wk.blk.cell 0
     have t1 := hS.t.wk.blk.cell 1
     simp at t0 t1
     have HRE1 := Lib.hid (HRE.out _ hS)
     all_goals go_simp
     (refine HRE1.out.mono ?_); rintro e w5 ⟨v5, rfl, hi5, hk5, -⟩; exact G.Done.rel hk5 ⟨(hk5.map _ (fun g hg => hg.elim) hS.t.rd.kept).less fun g hg => .inl hg, hi5⟩
   )
   iterate 4 first
    | (refine G.chain_skip (by rfl) (by rfl) ?_)
    | (apply G.chain_want (by rfl)
       ·intro act wx hS hr
        simp at hr
        have t0 := hS.t.wk.blk.cell 0
        have t1 := hS.t.wk.blk.cell 1
        simp at t0 t1
        have HRE1 := Lib.hid (HRE.out _ hS)
        go_simp
        (try go_ints)
        first
         | exact G.Done.same HR.out
      )
   (refine G.chain_rel (fun (v : Value) (_ : World) => v = .int .i64 (x : Int)) (int_keep m l V x) (by rfl) ?_ ?_
    ·intro act wx hS hr
     simp at hr
     have t0 := hS.t.wk.blk.cell 0
     have t1 := hS.t.wk.blk.cell 1
     simp at t0 t1
     have HRE1 := Lib.hid (HRE.out _ hS)
     obtain ⟨⟨v, hr3, hv⟩, hr1⟩ := hr
     all_goals go_simp
     (try simp only [hr3, hr1, Option.getD_some]); (refine (HWT.out v wx hv.2).mono ?_); rintro e w5 ⟨rfl, hb5⟩; exact G.Done.rel (HR.out _ _ (hb5.mono (Nat.le_refl _))) rfl
   )
   (refine G.chain_rel (fun (v : Value) (_ : World) => v = .int .i64 (x : Int)) (int_keep m l V x) (by rfl) ?_ ?_
    ·intro act wx hS hr
     simp at hr
     have t0 := hS.t.wk.blk.cell 0
     have t1 := hS.t.wk.blk.cell 1
     simp at t0 t1
     have HRE1 := Lib.hid (HRE.out _ hS)
     all_goals go_simp
     exact G.Done.rel (HR.out _ _ (Below.refl _ _)) rfl
   )
   show ∀ w', _ -> _
   intro w9 hw9
   simp [Act.put]
   case hS => exact HST.out
   intro v5 _
   have HX9 := Lib.hid hw9
   have t2 := hw9.t.wk.blk.cell 2
   have f2 := hw9.t.wk.blk.frozen 2
   simp at t2
   clear hw9 HST HRE HWT
   by_cases hcmp : r1 < x
   ·have hcz2 : (r1 : Int) < (x : Int) := by omega
    have HN := Lib.hid (HLO.out hcmp w9 HX9.out)
    clear HLO HHI HX9
    go_wp2
    go_roundw
    case rel => exact HN.out
    case measure => exact hmeas.1
   ·have hcz2 : ¬ (r1 : Int) < (x : Int) := by omega
    have hsz : (r1 : Int) - (x : Int) = ((r1 - x : Nat) : Int) := by omega
    have hr2 : r1 - x <= 1 := by omega
    have HN := Lib.hid (HHI.out hcmp w9 HX9.out)
    clear HLO HHI HX9
    generalize r1 - x = r2 at *
    go_wp2
    go_roundw
    case rel => exact HN.out
    case measure => exact hmeas.2
def KsP (m : Nat) (l : List Nd) (V : Wd) (xs : List Vl) (w0 : World) (e : Ending) (w : World) : Prop := ∃ v, e = .returned v /\ NwV w0.heap.size w v xs /\ Rk m l V w0.heap.size [] w0 w
def SkL (m : Nat) (A : Option Addr) (l : List Nd) (c : Nat) (u : Value) (W V : Wd) (i rb B g fr to_ : Nat) (xs : List Vl) (Al : Option Addr) (cl : Nat) (w0 : World) (w : World) : Prop :=
 ∃ (tt rk : Nat) (tv : Value) (L : List VCl) (ys : List Vl), fr <= tt /\ tt <= to_ /\ rk <= 1 /\ L.length + tt <= to_ /\ (stW (EN l (atN l i).a.toNat) (sgW W fr tt))[rk]? = some ys /\ xs = ys ++ (L.map (·.v)).reverse /\
   WkL m A l c u W V rb B g tt rk tv L Al cl (plF (W.length + 1) fun p => min 2 (cV l i W fr p)) w0 w
theorem sk_step {l : List Nd} {i : Nat} {W : Wd} {fr tt rk : Nat} (hF : Form l) (hi : i < l.length) (hk : (atN l i).kind = 6) (ht : fr < tt) (htt : tt <= W.length) {ys : List Vl} (h : (stW (EN l (atN l i).a.toNat) (sgW W fr tt))[rk]? = some ys) :
 rk < sg tt (kdf l (atN l i).a.toNat W tt (cV l i W fr)) /\ ∀ q r s v, q < tt -> r < cV l i W fr q -> rk = upS q tt (kdf l (atN l i).a.toNat W tt (cV l i W fr)) + (r * cV l (atN l i).a.toNat W q tt + s) -> (EN l (atN l i).a.toNat (sgW W q tt))[s]? = some v -> fr <= q /\ ∃ ys', (stW (EN l (atN l i).a.toNat) (sgW W fr q))[r]? = some ys' /\ ys = ys' ++ [v] := by
 have ha := cnt_kidA hF hi (by omega)
 have hlen : ∀ q, fr <= q -> (stW (EN l (atN l i).a.toNat) (sgW W fr q)).length = cV l i W fr q := fun q hq => by
  rw [stW_length hF hi hk (EN_length hF (by omega)) _ (Nat.le_refl _)]; unfold cV; rw [if_pos hq]
 constructor
 ·have h1 : rk < cV l i W fr tt := by rw [<- hlen tt (by omega)]; exact (List.getElem?_eq_some_iff.1 h).1
  rw [star_rec hF hi (by omega) hk, if_neg (by omega)] at h1
  simpa [kdf] using h1
 ·intro q r s v hq hr hrk hv
  have hfq : fr <= q := by
   by_cases h2 : fr <= q
   ·exact h2
   ·exfalso; unfold cV at hr; rw [if_neg h2] at hr; omega
  have hr2 : r < (stW (EN l (atN l i).a.toNat) (sgW W fr q)).length := by rw [hlen q hfq]; exact hr
  refine ⟨hfq, _, List.getElem?_eq_getElem hr2, ?_⟩
  have := idx_star hF hi hk hfq hq htt (List.getElem?_eq_getElem hr2) hv
  rw [show upS q tt (fun q => cV l i W fr q * cV l (atN l i).a.toNat W q tt) = upS q tt (kdf l (atN l i).a.toNat W tt (cV l i W fr)) from rfl, <- hrk, h] at this
  exact Option.some.inj this
theorem cstarKids_any {l : List Nd} {c m ba oa : Nat} {V : Wd} {i : Nat} (hF : Form l) (hi : i < l.length) (hk6 : (atN l i).kind = 6) (hEi : EndsC (some ⟨ba, oa, none⟩) l c m V i) (hE : EndsC (some ⟨ba, oa, none⟩) l c m V (atN l i).a.toNat) (hV : ValC (some ⟨ba, oa, none⟩) l c m V (atN l i).a.toNat)
 (rb : Nat) (u : Value) (W : Wd) (fr tt rk : Nat) (xs : List Vl) (w : World) (hr : Rdr rb (some ⟨ba, oa, none⟩) l c u W V m w) (hW : W <+: V) (hn : V.length <= 900) (hft : fr <= tt) (ht : tt <= W.length) (hrk : rk <= 1) (hx : (stW (EN l (atN l i).a.toNat) (sgW W fr tt))[rk]? = some xs) :
 Calls Try.prog 49 #[.pointer (some ⟨rb, 0, none⟩), .int .i64 (i : Int), .int .i64 (fr : Int), .int .i64 (tt : Int), .int .i64 (rk : Int)] w (KsP m l V xs w) := by
 have hWn : W.length <= 900 := by obtain ⟨t, rfl⟩ := hW; simp at hn; omega
 have ha := cnt_kidA hF hi (by omega)
 have hal : (atN l i).a.toNat < l.length := by omega
 have haz : (((atN l i).a.toNat : Nat) : Int) = (atN l i).a := by
  have hcs := (hF.2.1 i hi).cs rfl
  cases hcs with
  | leaf h1 hf => unfold leafK at h1; omega
  | one h1 hi0 ha hb h7 hr hcl hf => omega
  | two h1 hi0 hb ha hf0 hl hcl hf => omega
 have HC := Lib.hid (hEi rb u W fr w hr hW (by omega))
 have HSK := Lib.hid (fun (tt rk : Nat) (ys : List Vl) (h1 : fr < tt) (h2 : tt <= W.length) (h3 : (stW (EN l (atN l i).a.toNat) (sgW W fr tt))[rk]? = some ys) => sk_step hF hi hk6 h1 h2 h3)
 have HR0 := Lib.hid hr
 have HWW := Lib.hid hW
 have HE := Lib.hid hE
 have HV := Lib.hid hV
 have HFI : Hid (Form l /\ (atN l i).a.toNat < l.length) := ⟨hF, hal⟩
 have HX := Lib.hid hx
 have HIN := Lib.hid hi
 have hfe : (fun p => min 2 (cV l i W fr p)) = rowV l i W fr := by funext p; rw [rowV_cV]
 have HFE := Lib.hid hfe
 clear hr hW hEi hE hV hF hi hx hfe ha hal hk6
 obtain ⟨ai, hai⟩ : ∃ ai, (atN l i).a.toNat = ai := ⟨_, rfl⟩
 have HAI := Lib.hid hai
 rw [hai] at haz HSK HE HV HFI HX
 clear hai
 go_enter Try.func49, Try.ntmps49
 go_wp2_with fail
 refine HC.out.mono ?_; rintro e w2 ⟨v2, rfl, hi2, hrk2, -⟩
 obtain ⟨Al, cl, rfl, hlc, hrow2⟩ := hi2
 have HRK2 := Lib.hid hrk2
 have HR2 := Lib.hid (HR0.out.rk hrk2)
 have hb3 := (Below.refl w2.heap.size w2).alloc (Nat.le_refl _) (.cells #[.pointer (some ⟨rb, 0, none⟩), .int .i64 (tt : Int), .int .i64 (rk : Int), .slice none 0 0] 102)
 have HS0 : Hid (SkL m (some ⟨ba, oa, none⟩) l c u W V i rb w2.heap.size w2.heap.size fr tt xs Al cl w2 (w2.alloc (.cells #[.pointer (some ⟨rb, 0, none⟩), .int .i64 (tt : Int), .int .i64 (rk : Int), .slice none 0 0] 102))) := by
  refine ⟨tt, rk, .slice none 0 0, [], xs, hft, Nat.le_refl _, hrk, by simp, by rw [HAI.out]; exact HX.out, by simp, ⟨⟨.of_below hb3, hb3.size, HR2.out.later hb3, ⟨Blk.new w2 _ _, Nat.le_refl _, ⟨by simp [flatV], .inl ⟨rfl, rfl⟩⟩, fun y hy => by cases hy⟩⟩, ?_⟩⟩
  rw [HFE.out]; exact hrow2.later hb3
 rw [<- HFE.out] at hrow2 hlc ⊢
 have HROW := Lib.hid hrow2
 clear hrk2 hrow2 hb3 HC HX HR0
 have HMB : Hid (m < w2.heap.size) := by
  obtain ⟨es, hm, -⟩ := HR2.out.kept
  exact hm.lt
 generalize hln : (plF (W.length + 1) fun p => min 2 (cV l i W fr p)).length = ln at *
 have HLN := Lib.hid hln
 clear hln
 go_wp2
 generalize w2.alloc (.cells #[.pointer (some ⟨rb, 0, none⟩), .int .i64 (tt : Int), .int .i64 (rk : Int), .slice none 0 0] 102) = w3 at *
 go_loopw [] (SkL m (some ⟨ba, oa, none⟩) l c u W V i rb w2.heap.size w2.heap.size fr tt xs Al cl w2) (fun w' => (intOf ((w'.cell? ⟨w2.heap.size, 1, none⟩).getD (.int .i64 0))).toNat)
 case atStart => exact HS0.out
 case round =>
  obtain ⟨t1, r1, tv, L, ys, h1, h2, h3, h4, h5, h6, hst⟩ := hrel
  have HST := Lib.hid hst
  have H5 := Lib.hid h5
  have H6 := Lib.hid h6
  have e1 : wr.cell? ⟨w2.heap.size, 1, none⟩ = some (.int .i64 (t1 : Int)) := by rw [hst.t.wk.blk.cell]; rfl
  obtain ⟨b8, o8, hA8, hg8⟩ := hst.t.rd.rd.row.at10 HIN.out
  cases hA8
  have k0 := hst.t.rd.rd.blk.cell 0
  simp at k0
  unfold At10 at hg8
  obtain ⟨g0, g1, g2, g3, g4, g5, g6, g7, g8, g9⟩ := hg8
  rw [<- haz] at g1
  clear g0 g2 g3 g4 g5 g6 g7 g8 g9 hst h5 h6 HS0
  have hil : (i : Int) < (l.length : Int) := by have := HIN.out; omega
  have hi0 : ¬ (i : Int) < 0 := by omega
  by_cases hgt : fr < t1
  ·have hgz : (t1 : Int) > (fr : Int) := by omega
   have h5' := H5.out
   rw [HAI.out] at h5'
   obtain ⟨hs1, hs2⟩ := HSK.out t1 r1 ys hgt (by omega) h5'
   have HS2 := Lib.hid hs2
   have HK := Lib.hid (cwkid_any HFI.out.1 HFI.out.2 HE.out HV.out rb u W w2.heap.size w2.heap.size t1 r1 tv L (cV l i W fr) (.slice Al (plF (W.length + 1) fun p => min 2 (cV l i W fr p)).length cl) w2 wr HR2.out (Nat.le_refl _) HST.out.t.kp HWW.out hn HST.out.t.low HST.out.t.wk (by omega) h3 (by omega) ⟨Al, cl, rfl, by rw [HLN.out]; exact hlc, HST.out.row⟩ hs1)
   rw [HLN.out] at HK
   clear h5' hs1 hs2 haz
   go_wp2_with fail
   refine HK.out.mono ?_; rintro e w5 ⟨q, r, s, v, j1, j2, j3, j4, j5, tv', x, rfl, j6, j7, j8⟩
   obtain ⟨j9, ys', j10, j11⟩ := HS2.out q r s v j1 j3 j4 j5
   have HN : Hid (SkL m (some ⟨ba, oa, none⟩) l c u W V i rb w2.heap.size w2.heap.size fr tt xs Al cl w2 w5) := by
    have hk := HST.out.t.kp.then j8
    refine ⟨q, r, tv', L ++ [x], ys', j9, by omega, j2, by simp; omega, by rw [HAI.out]; exact j10, by rw [H6.out, j11, List.map_append, List.reverse_append]; simp [j6], ⟨⟨hk, hk.size, HR2.out.at_ (Nat.le_refl _) hk, j7⟩, HROW.out.keep fun b cur hb => ?_⟩⟩
    obtain ⟨es, hm, -⟩ := HR2.out.kept
    exact (hk.block b hb.lt (ismap_blk hm hb)).trans hb
   have HME : Hid ((intOf ((w5.cell? ⟨w2.heap.size, 1, none⟩).getD (.int .i64 0))).toNat < (intOf ((wr.cell? ⟨w2.heap.size, 1, none⟩).getD (.int .i64 0))).toNat) := by
    have e2 : w5.cell? ⟨w2.heap.size, 1, none⟩ = some (.int .i64 (q : Int)) := by rw [j7.blk.cell]; rfl
    unfold Hid
    rw [e1, e2]
    simp [intOf]; omega
   clear j1 j2 j3 j4 j5 j6 j7 j8 j9 j10 j11 HS2 HK HST H5 H6
   go_wp2
   go_roundw
   case rel => exact HN.out
   case measure => exact HME.out
  ·have hgz : ¬ (t1 : Int) > (fr : Int) := by omega
   have hte : t1 = fr := by omega
   have hxs : xs = (L.map (·.v)).reverse := by
    have h7 := H5.out
    rw [hte, (sgW_nil (by omega) (Nat.le_refl _)).2 rfl, stW_nil] at h7
    have h8 : ys = [] := by
     cases r1 with
     | zero => exact (Option.some.inj h7).symm
     | succ r => cases h7
    rw [H6.out, h8]; rfl
   have HI := Lib.hid (cinOrder_any (l := l) (V := V) (m := m) (L := L) (by omega) wr HST.out.t.wk HST.out.t.low HMB.out)
   have HRKW := Lib.hid HST.out.t.kp
   have HXS := Lib.hid hxs
   clear HST H5 H6 hxs hte
   go_wp2_with fail
   refine HI.out.mono ?_; rintro e w5 ⟨v5, rfl, j1, j2⟩
   have HP : Hid (KsP m l V xs w (.returned v5) w5) := by
    refine ⟨v5, rfl, ?_, (HRK2.out.call HRK2.out.size ((HRKW.out.then j2)))⟩
    rw [HXS.out]
    obtain ⟨A9, c9, k1, k2, k3⟩ := j1
    exact ⟨A9, c9, k1, k2, k3.mono fun b _ hb => Nat.le_trans HRK2.out.size hb⟩
   obtain ⟨A9, c9, hv9, -⟩ := j1
   rw [List.length_reverse, List.length_map] at hv9
   subst hv9
   clear j2 HI
   go_wp2
   go_ret
   exact HP.out
def NesP (p : Nat -> Prop) (l : List Nd) (i : Nat) (A1 : Option Addr) (L : List VCl) (w0 : World) (e : Ending) (w : World) : Prop := ∃ (x : VCl) (A : Option Addr) (c : Nat), e = .returned (.tuple #[.agg x.cells, .slice A (L.drop (memN l i).length).length c]) /\ x.v = nestN l i ((L.map (·.v)).take (memN l i).length) /\ VOk p w x /\
 (∀ b o, A = some ⟨b, o, none⟩ -> ∃ o', A1 = some ⟨b, o', none⟩) /\ ClRow w A (L.drop (memN l i).length) /\ (L.drop (memN l i).length).length <= c /\ Below w0.heap.size w0 w
def NesC (A : Option Addr) (l : List Nd) (c m : Nat) (i : Nat) : Prop := ∀ (rb : Nat) (u : Value) (W : Wd) (p : Nat -> Prop) (A1 : Option Addr) (L : List VCl) (c1 : Nat) (w : World), Rdb rb A l c u W m w -> (∀ b, w.heap.size <= b -> p b) -> ClRow w A1 L -> CKp p w L -> (memN l i).length <= L.length -> L.length <= c1 -> L.length <= 100000 ->
 Calls Try.prog 46 #[.pointer (some ⟨rb, 0, none⟩), .int .i64 (i : Int), .slice A1 L.length c1] w (NesP p l i A1 L w)
theorem ClRow.later {w w' : World} {A : Option Addr} {L : List VCl} (h : ClRow w A L) (hb : Below w.heap.size w w') : ClRow w' A L := fun i hi => by
 obtain ⟨b, off, h1, h2, h3⟩ := h i hi
 exact ⟨b, off, h1, Nat.lt_of_lt_of_le h2 hb.size, fun j hj => (hb.cell (p := ⟨b, off + i * 5 + j, none⟩) h2).trans (h3 j hj)⟩
theorem CKp.later {p : Nat -> Prop} {w w' : World} {L : List VCl} (h : CKp p w L) (hb : Below w.heap.size w w') : CKp p w' L := fun x hx => ⟨(h x hx).1, (h x hx).2.later hb⟩
theorem ClRow.tail {w : World} {b o : Nat} {x : VCl} {L : List VCl} (h : ClRow w (some ⟨b, o, none⟩) (x :: L)) : ClRow w (some ⟨b, o + 5, none⟩) L := fun i hi => by
 obtain ⟨b', off, h1, h2, h3⟩ := h (i + 1) (by simp; omega)
 cases h1
 refine ⟨b, o + 5, rfl, h2, fun j hj => ?_⟩
 have := h3 j hj
 rw [show o + 5 + i * 5 + j = o + (i + 1) * 5 + j by omega]
 exact this
theorem ClRow.nil (w : World) (A : Option Addr) : ClRow w A [] := fun i hi => absurd hi (Nat.not_lt_zero i)
theorem nest_leaf {l : List Nd} {c m ba oa : Nat} {i : Nat} (hi : i < l.length) (hk : (atN l i).kind ≠ 4) : NesC (some ⟨ba, oa, none⟩) l c m i := by
 intro rb u W p A1 L c1 w hr hB hrow hck hlen hc1 hL
 have hm : (memN l i).length = 1 := by rw [memN_one hk]; rfl
 unfold NesP
 rw [hm] at hlen ⊢
 cases L with
 | nil => simp at hlen
 | cons x L =>
  obtain ⟨b1, o1, rfl, hb1, hcell⟩ := hrow 0 (by simp)
  obtain ⟨⟨xk, xb, xt, xp, xs⟩, xB, xc⟩ := x
  have p0 : w.cell? ⟨b1, o1, none⟩ = some (.int .i64 xk) := hcell 0 (by decide)
  have p1 : w.cell? ⟨b1, o1 + 1, none⟩ = some (.int .u8 ((xb.toNat : Nat) : Int)) := hcell 1 (by decide)
  have p2 : w.cell? ⟨b1, o1 + 2, none⟩ = some (.string (bs xt)) := hcell 2 (by decide)
  have p3 : w.cell? ⟨b1, o1 + 3, none⟩ = some (.int .i64 xp) := hcell 3 (by decide)
  have p4 : w.cell? ⟨b1, o1 + 4, none⟩ = some (.slice xB xs.len xc) := hcell 4 (by decide)
  have hb := (Below.refl w.heap.size w).alloc (Nat.le_refl _) (.cells #[.int .i64 0, .int .u8 0, .string ⟨#[]⟩, .int .i64 0, .slice none 0 0] 32)
  have HB := Lib.hid hb
  have HZ := Lib.hid (Blk.new w #[.int .i64 0, .int .u8 0, .string ⟨#[]⟩, .int .i64 0, .slice none 0 0] 32)
  have hxk := hck _ (List.mem_cons_self ..)
  have HXK := Lib.hid hxk
  have HROW := Lib.hid hrow
  have hR := hr.later hb
  have hkz : ¬ (atN l i).kind = 4 := hk
  have hc1z : (1 : Int) <= (c1 : Int) := by simp at hc1; omega
  have hil : (i : Int) < (l.length : Int) := by omega
  have hi0 : ¬ (i : Int) < 0 := by omega
  have HNV : Hid (nestN l i (((⟨⟨xk, xb, xt, xp, xs⟩, xB, xc⟩ :: L : List VCl).map (·.v)).take 1) = ⟨xk, xb, xt, xp, xs⟩) := by
   unfold Hid; rw [nestN_one hk]; simp
  have HP : Hid (∀ (wx : World) (A2 : Option Addr), Below w.heap.size w wx -> (L = [] /\ A2 = some ⟨b1, o1, none⟩ \/ A2 = some ⟨b1, o1 + 5, none⟩) -> ∃ (x : VCl) (A : Option Addr) (c : Nat), Ending.returned (.tuple #[.agg #[.int .i64 xk, .int .u8 ((xb.toNat : Nat) : Int), .string (bs xt), .int .i64 xp, .slice xB xs.len xc], .slice A2 L.length (c1 - 1)]) = .returned (.tuple #[.agg x.cells, .slice A L.length c]) /\ x.v = nestN l i (((⟨⟨xk, xb, xt, xp, xs⟩, xB, xc⟩ :: L : List VCl).map (·.v)).take 1) /\ VOk p wx x /\ (∀ b o, A = some ⟨b, o, none⟩ -> ∃ o', (some ⟨b1, o1, none⟩ : Option Addr) = some ⟨b, o', none⟩) /\ ClRow wx A L /\ L.length <= c /\ Below w.heap.size w wx) := fun wx A2 hbx hA2 => by
   refine ⟨⟨⟨xk, xb, xt, xp, xs⟩, xB, xc⟩, A2, c1 - 1, rfl, HNV.out.symm, ⟨hxk.1, hxk.2.later hbx⟩, ?_, ?_, by simp at hc1; omega, hbx⟩
   ·rcases hA2 with ⟨-, rfl⟩ | rfl <;> (intro b o e; cases e; exact ⟨_, rfl⟩)
   rcases hA2 with ⟨rfl, -⟩ | rfl
   ·exact ClRow.nil _ _
   ·exact hrow.tail.later hbx
  have hLz : ((L.length : Nat) : Int) <= 100000 := by simp at hL; omega
  have hlc : L.length + 1 <= c1 := by simpa using hc1
  simp only [List.length_cons, List.drop_succ_cons, List.drop_zero]
  go_enter Try.func46, Try.ntmps46
  go_upto_region 1 with (fail)
  generalize w.alloc (.cells #[.int .i64 0, .int .u8 0, .string ⟨#[]⟩, .int .i64 0, .slice none 0 0] 32) = w1 at *
  have k0 := hR.blk.cell 0
  simp at k0
  obtain ⟨b8, o8, hA8, hg8⟩ := hR.row.at10 hi
  cases hA8
  unfold At10 at hg8
  obtain ⟨g0, g1, g2, g3, g4, g5, g6, g7, g8, g9⟩ := hg8
  have q0 := (hb.cell (p := ⟨b1, o1, none⟩) hb1).trans p0
  have q1 := (hb.cell (p := ⟨b1, o1 + 1, none⟩) hb1).trans p1
  have q2 := (hb.cell (p := ⟨b1, o1 + 2, none⟩) hb1).trans p2
  have q3 := (hb.cell (p := ⟨b1, o1 + 3, none⟩) hb1).trans p3
  have q4 := (hb.cell (p := ⟨b1, o1 + 4, none⟩) hb1).trans p4
  have z0 : w1.cell? ⟨w.heap.size, 0, none⟩ = some (.int .i64 0) := by rw [HZ.out.cell]; rfl
  have z1 : w1.cell? ⟨w.heap.size, 1, none⟩ = some (.int .u8 0) := by rw [HZ.out.cell]; rfl
  have z2 : w1.cell? ⟨w.heap.size, 2, none⟩ = some (.string ⟨#[]⟩) := by rw [HZ.out.cell]; rfl
  have z3 : w1.cell? ⟨w.heap.size, 3, none⟩ = some (.int .i64 0) := by rw [HZ.out.cell]; rfl
  have z4 : w1.cell? ⟨w.heap.size, 4, none⟩ = some (.slice none 0 0) := by rw [HZ.out.cell]; rfl
  have f0 := HZ.out.frozen 0
  have f1 := HZ.out.frozen 1
  have f2 := HZ.out.frozen 2
  have f3 := HZ.out.frozen 3
  have f4 := HZ.out.frozen 4
  clear g1 g2 g3 g4 g5 g6 g7 g8 g9 p0 p1 p2 p3 p4 hcell hck hxk hrow hr hR hb
  generalize (atN l i).kind = kk at *
  go_upto_region 3 with (fail)
  clear g0 k0 HXK HROW HNV hm hlen hL
  by_cases hc2 : c1 = 1
  ·subst hc2
   have HL0 : Hid (L = []) := List.length_eq_zero_iff.1 (by omega)
   go_region
   go_wp2
   refine bodyPost_ret (v := .tuple #[.agg #[.int .i64 xk, .int .u8 ((xb.toNat : Nat) : Int), .string (bs xt), .int .i64 xp, .slice xB xs.len xc], .slice (some ⟨b1, o1, none⟩) 0 0]) ?_ rfl ?_
   ·simp [results, Try.results46, go_sem]
    go_simp
    try rfl
   ·have h0 := HL0.out
    subst h0
    have h8 := HP.out _ (some ⟨b1, o1, none⟩) ((((((HB.out.setCell (p := ⟨w.heap.size, 0, none⟩) (Nat.le_refl _) (.int .i64 xk)).setCell (p := ⟨w.heap.size, 1, none⟩) (Nat.le_refl _) (.int .u8 ((xb.toNat : Nat) : Int))).setCell (p := ⟨w.heap.size, 2, none⟩) (Nat.le_refl _) (.string (bs xt))).setCell (p := ⟨w.heap.size, 3, none⟩) (Nat.le_refl _) (.int .i64 xp)).setCell (p := ⟨w.heap.size, 4, none⟩) (Nat.le_refl _) (.slice xB xs.len xc)).drew) (.inl ⟨rfl, rfl⟩)
    simpa using h8
  ·have hc3 : ¬ (c1 : Int) = 1 := by omega
   go_region
   go_wp2
   refine bodyPost_ret (v := .tuple #[.agg #[.int .i64 xk, .int .u8 ((xb.toNat : Nat) : Int), .string (bs xt), .int .i64 xp, .slice xB xs.len xc], .slice (some ⟨b1, o1 + 5, none⟩) L.length (c1 - 1)]) ?_ rfl ?_
   ·simp [results, Try.results46, go_sem]
    go_simp
    try rfl
   ·have h8 := HP.out _ (some ⟨b1, o1 + 5, none⟩) ((((((HB.out.setCell (p := ⟨w.heap.size, 0, none⟩) (Nat.le_refl _) (.int .i64 xk)).setCell (p := ⟨w.heap.size, 1, none⟩) (Nat.le_refl _) (.int .u8 ((xb.toNat : Nat) : Int))).setCell (p := ⟨w.heap.size, 2, none⟩) (Nat.le_refl _) (.string (bs xt))).setCell (p := ⟨w.heap.size, 3, none⟩) (Nat.le_refl _) (.int .i64 xp)).setCell (p := ⟨w.heap.size, 4, none⟩) (Nat.le_refl _) (.slice xB xs.len xc)).drew) (.inr rfl)
    simpa using h8
end Go.Proofs.Ytpbbokdmoaadfaa
