/- What a framed value writes: the program's walk. -/
import Derived.Test.YtgdlbahfmddkaaaM36
import Derived.Test.YtgdlbahfmddkaaaM30
import Derived.Test.YtgdlbahfmddkaaaM31
namespace Go.Proofs.Ytgdlbahfmddkaaa
open Go Go.RowKit
set_option linter.unusedVariables false
set_option linter.unusedSimpArgs false
set_option maxRecDepth 100000

/-- What a region does that puts zeros behind what it owns. -/
structure FrR (H : Nat) (L : Wd) (w w' : World) : Prop where
  out : H ≤ w.heap.size → (Kp H w w' ∧ ∀ u U, U <+: L → Own8 w H u (nats U) → Own8 w' H u (nats U))
theorem FrR.of {H : Nat} {L : Wd} (w w' : World) (hb : Below w.heap.size w w') : FrR H L w w' := ⟨fun h => ⟨Kp.of hb h, fun u U _ k => k.later hb⟩⟩
structure FrS (H : Nat) (w1 : World) (W : Wd) (ow : Value) (A : Option Addr) (l : List Nd) (c : Nat) (v : Vl) (B : Option Addr) (cv bw bv : Nat) (w : World) : Prop where
  lo : H ≤ w.heap.size
  kp : Kp H w1 w
  own : Own8 w H ow (nats W)
  box : Blk w bw #[.slice A l.length c] 55
  bv : Blk w bv (vlC v B cv) 27
theorem FrS.grow {H : Nat} {w1 : World} {W L : Wd} {ow : Value} {A : Option Addr} {l : List Nd} {c : Nat} {v : Vl} {B : Option Addr} {cv bw bv : Nat} {w w' : World} (hL : W <+: L) (h : FrS H w1 W ow A l c v B cv bw bv w) (hr : FrR H L w w') : FrS H w1 W ow A l c v B cv bw bv w' := by
  obtain ⟨k, kp⟩ := hr.out h.lo
  exact ⟨Nat.le_trans h.lo k.size, h.kp.trans k, kp _ _ hL h.own, k.typ _ _ _ (by decide) h.box, k.typ _ _ _ (by decide) h.bv⟩
def VwZ (H : Nat) (L : Wd) (v : Value) (w : World) : Prop := H ≤ w.heap.size ∧ Own8 w H v (nats L)
theorem VwZ.grow (H : Nat) (L : Wd) : ∀ v w w', VwZ H L v w → FrR H L w w' → VwZ H L v w' := fun v w w' h hr => by
  obtain ⟨k, kp⟩ := hr.out h.1
  exact ⟨Nat.le_trans h.1 k.size, kp _ _ (List.prefix_refl L) h.2⟩
set_option maxRecDepth 100000 in
theorem wp_append_zeros {w : World} {o : Oper} {a : Act} {K : Act → World → Prop} {Q : Exit → Act → World → Prop} (s x : Operand)
    (ho : o.op = .call { callee := .builtin .append, args := #[s, x], argTypes := #[31, 3] })
    (H : Nat) (v : Value) (W : Wd) (hs : a.eval s = v) (hown : Own8 w H v (nats W)) (k : Nat) (hx : a.eval x = .int .i64 (k : Int)) (h0 : 0 < k) (hk : k ≤ 1000) (hlen : W.length + k ≤ 1073741824) (hH : H ≤ w.heap.size)
    (h : ∀ v' w', Own8 w' H v' (nats (W ++ List.replicate k 0)) → FrR H (W ++ List.replicate k 0) w w' → K (a.put o.dst v') w') : o.wp Try.prog a w K Q := by
  obtain ⟨v', w', hr, h2, h3, h4⟩ := run_append_zeros w H v W hown k h0 hk hlen hH o.type
  unfold Oper.wp execOp
  simp only [ho, resolve, invoke, builtin, Sem.run_bind, Sem.run_pure, Result.andThen_ok, List.map_toArray, List.map_cons, List.map_nil, hs, hx, hr]
  exact h v' w' h2 ⟨fun _ => ⟨Kp.grown hown h3 hH, h4⟩⟩
/-- The word that is framed by so many bytes. -/
def frmH (h : Nat) : Option Wd → Option Wd
  | none => none
  | some x => if h = 1 then (if x.length ≤ 255 then some (byU x.length :: x) else none) else (if x.length ≤ 65535 then some (byU (x.length / 256) :: byU (x.length % 256) :: x) else none)
def hdK (h n k : Nat) : Wd := if h = 1 then (if k = 0 then [0] else [byU n]) else if k = 0 then [0, 0] else if k = 1 then [0, byU (n % 256)] else [byU (n / 256), byU (n % 256)]
def FrL (H : Nat) (w1 : World) (W V : Wd) (h g cap : Nat) (x : Value) (wr : World) : Prop :=
  ∃ k : Nat, k ≤ h ∧ x = .int .i64 (k : Int) ∧ Own8 wr H (.slice (some ⟨g, 0, none⟩) (W.length + h + V.length) cap) (nats (W ++ hdK h V.length k ++ V)) ∧ Kp H w1 wr
def FramedC (w0 : World) (A : Option Addr) (l : List Nd) (c : Nat) (a : Nat) (v : Vl) (h : Nat) : Prop := ∀ (B : Option Addr) (cv : Nat) (W : Wd) (ow : Value) (w : World), v.kids.len ≤ cv → VRow w0 B 0 v.kids → W.length + 2002 * cntVs v.kids + 2 ≤ 536870912 → Below w0.heap.size w0 w → Own8 w w0.heap.size ow (nats W) →
  Calls Try.prog 35 #[.agg #[.slice A l.length c], ow, .int .i64 (h : Int), .agg (vlC v B cv), .int .i64 (a : Int)] w (GotP w0.heap.size W w (frmH h (gthW (leastK (atN l a)) (wrS l (fun j => (kidN (atN l a) v.pick j).toNat) v.kids))))
set_option maxHeartbeats 16000000 in
theorem framed_one {w0 : World} {A : Option Addr} {l : List Nd} {c a : Nat} {v : Vl} (hK : KidsC w0 A l c a v) (hlk : ∀ V, gthW (leastK (atN l a)) (wrS l (fun j => (kidN (atN l a) v.pick j).toNat) v.kids) = some V → V.length ≤ 2002 * cntVs v.kids) : FramedC w0 A l c a v 1 := by
  intro B cv W ow w hcv hkr hbd hw ho
  have HK : Hid (∀ (ow' : Value) (w' : World), Below w0.heap.size w0 w' → Own8 w' w0.heap.size ow' (nats (W ++ List.replicate 1 0)) → Calls Try.prog 36 #[.agg #[.slice A l.length c], ow', .agg (vlC v B cv), .int .i64 (a : Int)] w' (GotP w0.heap.size (W ++ List.replicate 1 0) w' (gthW (leastK (atN l a)) (wrS l (fun j => (kidN (atN l a) v.pick j).toNat) v.kids)))) :=
    fun ow' w' h1 h2 => hK B cv (W ++ List.replicate 1 0) ow' w' hcv hkr (by simp; omega) h1 h2
  have HV : Hid (∀ V, gthW (leastK (atN l a)) (wrS l (fun j => (kidN (atN l a) v.pick j).toNat) v.kids) = some V → W.length + V.length ≤ 536870912) := fun V hV => by have := hlk V hV; omega
  generalize gthW (leastK (atN l a)) (wrS l (fun j => (kidN (atN l a) v.pick j).toNat) v.kids) = r at *
  obtain ⟨L, hL⟩ : ∃ L, L = W ++ List.replicate 1 (0 : UInt8) := ⟨_, rfl⟩
  rw [← hL] at HK
  have HLP : Hid (W <+: L) := ⟨_, hL.symm⟩
  have hLl : L.length = W.length + 1 := by rw [hL]; simp
  have HL := Lib.hid hL
  clear hL
  have HW0 := Lib.hid hw
  have hbel := ((Below.refl w.heap.size w).alloc (Nat.le_refl _) (.cells #[.slice A l.length c] 55)).alloc (by simp) (.cells (vlC v B cv) 27)
  have HS0 : Hid (FrS w0.heap.size w W ow A l c v B cv w.heap.size (w.heap.size + 1) ((w.alloc (.cells #[.slice A l.length c] 55)).alloc (.cells (vlC v B cv) 27))) :=
    ⟨Nat.le_trans hw.size hbel.size, Kp.of hbel hw.size, ho.later hbel, (Blk.new _ _ _).alloc _, Blk.new' (by simp) _ _⟩
  obtain ⟨oA, oc, hov, hoc⟩ := own8_form ho
  have hWl : W.length ≤ 536870912 := by omega
  clear hK hlk hkr ho hw hbel hbd hoc
  subst hov
  obtain ⟨vk, vb, vt, vp, ks⟩ := v
  rw [vlC_five] at *
  simp only at *
  go_enter Try.func35, Try.ntmps35
  go_upto_region 2 with (fail)
  generalize (w.alloc (.cells #[.slice A l.length c] 55)).alloc (.cells #[.int .i64 vk, .int .u8 ((vb.toNat : Nat) : Int), .string (bs vt), .int .i64 vp, .slice B ks.len cv] 27) = w1 at *
  have HR : Hid (∀ w w' : World, Below w.heap.size w w' → FrR w0.heap.size L w w') := fun w w' h => FrR.of w w' h
  refine G.wp_region_stable_mid (R := (FrR w0.heap.size L)) HR.out 6 #[true, true, true, true, true, true, false, false, false, false, false, false] (S := (FrS w0.heap.size w W (.slice oA W.length oc) A l c ⟨vk, vb, vt, vp, ks⟩ B cv w.heap.size (w.heap.size + 1))) (hSt := fun _ _ h hr => h.grow HLP.out hr) (plan := [[(5, none)], [(1, none)], [(2, none)], [(22, some 1), (23, some 2)], [(8, none)], [(4, none)]]) rfl (by kernel_rfl) (by kernel_rfl) (by kernel_rfl) (by kernel_rfl) ?hS ?_
  rotate_left
  iterate 3 first
    | (refine G.chain_skip (by rfl) (by rfl) ?_)
    | (apply G.chain_want (by rfl)
       · intro act wx hS hr
         simp at hr
         obtain ⟨b0, b1, b2, b3, b4⟩ := vl_cells hS.bv
         have e0 := hS.box.cell 0
         simp at e0
         go_simp
         (try go_ints)
         first
           | exact G.Done.same HR.out
      )
  (refine G.chain_rel (VwZ w0.heap.size L) (VwZ.grow _ _) (by rfl) ?_ ?_
   · intro act wx hS hr
     simp at hr
     obtain ⟨b0, b1, b2, b3, b4⟩ := vl_cells hS.bv
     have e0 := hS.box.cell 0
     simp at e0
     obtain ⟨hr1, hr2⟩ := hr
     refine wp_append_zeros (.tmp 22) (.tmp 23) rfl w0.heap.size (.slice oA W.length oc) W (by simp [Act.eval, hr1]) hS.own 1 (by simp [Act.eval, hr2]) (by decide) (by decide) (by omega) hS.lo ?_
     intro v' w' q1 q2
     rw [← HL.out] at q1 q2
     exact G.Done.rel q2 ⟨Nat.le_trans hS.lo (q2.out hS.lo).1.size, q1⟩
     all_goals go_simp
  )
  iterate 2 first
    | (refine G.chain_skip (by rfl) (by rfl) ?_)
    | (apply G.chain_want (by rfl)
       · intro act wx hS hr
         simp at hr
         obtain ⟨b0, b1, b2, b3, b4⟩ := vl_cells hS.bv
         have e0 := hS.box.cell 0
         simp at e0
         go_simp
         (try go_ints)
         first
           | exact G.Done.same HR.out
      )
  show ∀ w', _ → _
  intro wz hz
  simp [Act.put]
  case hS => exact HS0.out
  intro y hy
  have HSZ := Lib.hid hz
  have HY := Lib.hid hy
  clear hz hy HS0
  obtain ⟨yA, yc, hyv, hyc⟩ := own8_form HY.out.2
  subst hyv
  clear hyc
  have HLl := Lib.hid hLl
  rw [hLl] at HY ⊢
  clear hLl
  refine wpAny_ready (rs := [6]) (by kernel_rfl) (by simp) ?_
  refine AllReady.cons rfl (fun K hK => ?_) AllReady.nil
  go_simp
  refine (HK.out _ _ (HW0.out.trans HSZ.out.kp.bel) HY.out.2).mono ?_; rintro e w3 ⟨x3, rfl, hx3, hk3⟩
  refine hK _ _ ?_; clear hK K
  have HK3 := Lib.hid (HSZ.out.kp.trans hk3)
  clear hk3 HK HSZ HY
  cases r with
  | none =>
    have hx3 : x3 = .tuple #[.slice none 0 0, .bool false] := hx3
    subst hx3
    clear HV
    refine wpAny_take (i := 7) (v := ?_) rfl (by kernel_rfl) (by kernel_rfl) (by kernel_rfl) (fun _ _ _ h => h) (Or.inl ⟨by rfl, ?_⟩) ?_
    rotate_left
    · (intro w; go_simp; try with_reducible rfl)
    refine wpAny_take (i := 8) (v := ?_) rfl (by kernel_rfl) (by kernel_rfl) (by kernel_rfl) (fun _ _ _ h => h) (Or.inl ⟨by rfl, ?_⟩) ?_
    rotate_left
    · (intro w; go_simp; try with_reducible rfl)
    refine wpAny_take (i := 9) (v := ?_) rfl (by kernel_rfl) (by kernel_rfl) (by kernel_rfl) (fun _ _ _ h => h) (Or.inl ⟨by rfl, ?_⟩) ?_
    rotate_left
    · (intro w; go_simp; try with_reducible rfl)
    refine wpAny_take (i := 10) (v := ?_) rfl (by kernel_rfl) (by kernel_rfl) (by kernel_rfl) (fun _ _ _ h => h) (Or.inl ⟨by rfl, ?_⟩) ?_
    rotate_left
    · (intro w; go_simp; try with_reducible rfl)
    refine wpAny_take (i := 11) (v := ?_) rfl (by kernel_rfl) (by kernel_rfl) (by kernel_rfl) (fun _ _ _ h => h) (Or.inl ⟨by rfl, ?_⟩) ?_
    rotate_left
    · (intro w; go_simp; try with_reducible rfl)
    refine wpAny_done (by kernel_rfl) ?_ _
    simp [Act.put]
    have hw2 : (0 : Int) ≤ (W.length : Int) := by omega
    go_wp2
    go_ret2
    exact ⟨_, rfl, rfl, HK3.out⟩
  | some V =>
    obtain ⟨v3, rfl, ho3⟩ := hx3
    have hvl := HV.out V rfl
    obtain ⟨g, cap, cur, rfl, hg1, hg2, hg3, hg4, hg5, -⟩ := own8_blk ho3 (by intro e; have := congrArg List.length e; rw [List.length_append, HLl.out] at this; simp at this)
    have hnn : (L ++ V).length = W.length + 1 + V.length := by rw [List.length_append, HLl.out]
    rw [hnn] at ho3
    have HO3 := Lib.hid ho3
    clear ho3 HV hg1 hg2 hg3 hg4 hg5
    rw [hnn]
    clear hnn
    refine wpAny_take (i := 7) (v := ?_) rfl (by kernel_rfl) (by kernel_rfl) (by kernel_rfl) (fun _ _ _ h => h) (Or.inl ⟨by rfl, ?_⟩) ?_
    rotate_left
    · (intro w; go_simp; try with_reducible rfl)
    refine wpAny_take (i := 8) (v := ?_) rfl (by kernel_rfl) (by kernel_rfl) (by kernel_rfl) (fun _ _ _ h => h) (Or.inl ⟨by rfl, ?_⟩) ?_
    rotate_left
    · (intro w; go_simp; try with_reducible rfl)
    refine wpAny_take (i := 9) (v := ?_) rfl (by kernel_rfl) (by kernel_rfl) (by kernel_rfl) (fun _ _ _ h => h) (Or.inl ⟨by rfl, ?_⟩) ?_
    rotate_left
    · (intro w; go_simp; try with_reducible rfl)
    refine wpAny_take (i := 10) (v := ?_) rfl (by kernel_rfl) (by kernel_rfl) (by kernel_rfl) (fun _ _ _ h => h) (Or.inl ⟨by rfl, ?_⟩) ?_
    rotate_left
    · (intro w; go_simp; try with_reducible rfl)
    refine wpAny_take (i := 11) (v := ?_) rfl (by kernel_rfl) (by kernel_rfl) (by kernel_rfl) (fun _ _ _ h => h) (Or.inl ⟨by rfl, ?_⟩) ?_
    rotate_left
    · (intro w; go_simp; try with_reducible rfl)
    refine wpAny_done (by kernel_rfl) ?_ _
    simp [Act.put]
    have hsub : ((W.length : Int) + 1 + (V.length : Int) - ((W.length : Int) + 1)) = (V.length : Int) := by omega
    have HOZ : Hid (L ++ V = W ++ hdK 1 V.length 0 ++ V) := by unfold Hid; rw [HL.out]; rfl
    by_cases hs : V.length ≤ 255
    · have hdv : ((V.length : Int) / 256 != 0) = false := by
        have : (V.length : Int) / 256 = 0 := by omega
        rw [this]; rfl
      have HF : Hid (frmH 1 (some V) = some (byU V.length :: V)) := by unfold Hid frmH; simp [hs]
      have HS1 : Hid (FrL w0.heap.size w W V 1 g cap (.int .i64 ((0 : Nat) : Int)) w3) := ⟨0, by decide, rfl, by rw [← HOZ.out]; exact HO3.out, HK3.out⟩
      clear HO3 HK3 HOZ
      go_wp2
      go_loopw [44] (FrL w0.heap.size w W V 1 g cap) (fun x _ => 1 - (intOf x).toNat)
      case atStart => exact HS1.out
      case round =>
        obtain ⟨k, hk, rfl, hown, hkp⟩ := hrel
        have HO := Lib.hid hown
        have HKP := Lib.hid hkp
        clear hown hkp HS1
        by_cases hlt : k < 1
        · obtain rfl : k = 0 := by omega
          have hwl : (W ++ hdK 1 V.length 0 ++ V).length = W.length + 1 + V.length := by simp [hdK]; omega
          rw [← hwl] at HO
          obtain ⟨s1, s2, s3, s4⟩ := own8_set HO.out W.length (by rw [hwl]; omega) (byU V.length)
          have hset : (W ++ hdK 1 V.length 0 ++ V).set W.length (byU V.length) = W ++ hdK 1 V.length 1 ++ V := by simp [hdK]
          rw [hset, hwl] at s1
          have hb : ((byU V.length).toNat : Nat) = V.length := by unfold byU; simp; omega
          rw [hb] at s1 s2
          have HX1 := Lib.hid s1
          have HX2 := Lib.hid (HKP.out.trans (s2 (Nat.le_trans HW0.out.size HKP.out.size)))
          have hiz : (W.length : Int) < ((W.length + 1 + V.length : Nat) : Int) := by omega
          clear s1 s2 hset hb hwl
          go_wp2
          go_roundw
          case rel => exact ⟨1, by decide, rfl, HX1.out, HX2.out⟩
          case measure => decide
        · obtain rfl : k = 1 := by omega
          have HE : Hid (GotV w0.heap.size W (frmH 1 (some V)) (.tuple #[.slice (some ⟨g, 0, none⟩) (W.length + 1 + V.length) cap, .bool true]) wr) := by
            unfold Hid
            rw [HF.out]
            refine ⟨_, rfl, ?_⟩
            have := HO.out
            simpa [hdK] using this
          clear HO HF
          go_wp2
          go_ret2
          exact ⟨_, rfl, HE.out, HKP.out⟩
    · have hdv : ((V.length : Int) / 256 != 0) = true := by
        have : (V.length : Int) / 256 ≠ 0 := by omega
        simp [this]
      have HF : Hid (frmH 1 (some V) = none) := by unfold Hid frmH; simp [hs]
      clear HO3 HOZ
      go_wp2
      go_ret2
      exact ⟨_, rfl, by rw [HF.out]; rfl, HK3.out⟩

set_option maxHeartbeats 16000000 in
theorem framed_two {w0 : World} {A : Option Addr} {l : List Nd} {c a : Nat} {v : Vl} (hK : KidsC w0 A l c a v) (hlk : ∀ V, gthW (leastK (atN l a)) (wrS l (fun j => (kidN (atN l a) v.pick j).toNat) v.kids) = some V → V.length ≤ 2002 * cntVs v.kids) : FramedC w0 A l c a v 2 := by
  intro B cv W ow w hcv hkr hbd hw ho
  have HK : Hid (∀ (ow' : Value) (w' : World), Below w0.heap.size w0 w' → Own8 w' w0.heap.size ow' (nats (W ++ List.replicate 2 0)) → Calls Try.prog 36 #[.agg #[.slice A l.length c], ow', .agg (vlC v B cv), .int .i64 (a : Int)] w' (GotP w0.heap.size (W ++ List.replicate 2 0) w' (gthW (leastK (atN l a)) (wrS l (fun j => (kidN (atN l a) v.pick j).toNat) v.kids)))) :=
    fun ow' w' h1 h2 => hK B cv (W ++ List.replicate 2 0) ow' w' hcv hkr (by simp; omega) h1 h2
  have HV : Hid (∀ V, gthW (leastK (atN l a)) (wrS l (fun j => (kidN (atN l a) v.pick j).toNat) v.kids) = some V → W.length + V.length ≤ 536870912) := fun V hV => by have := hlk V hV; omega
  generalize gthW (leastK (atN l a)) (wrS l (fun j => (kidN (atN l a) v.pick j).toNat) v.kids) = r at *
  obtain ⟨L, hL⟩ : ∃ L, L = W ++ List.replicate 2 (0 : UInt8) := ⟨_, rfl⟩
  rw [← hL] at HK
  have HLP : Hid (W <+: L) := ⟨_, hL.symm⟩
  have hLl : L.length = W.length + 2 := by rw [hL]; simp
  have HL := Lib.hid hL
  clear hL
  have HW0 := Lib.hid hw
  have hbel := ((Below.refl w.heap.size w).alloc (Nat.le_refl _) (.cells #[.slice A l.length c] 55)).alloc (by simp) (.cells (vlC v B cv) 27)
  have HS0 : Hid (FrS w0.heap.size w W ow A l c v B cv w.heap.size (w.heap.size + 1) ((w.alloc (.cells #[.slice A l.length c] 55)).alloc (.cells (vlC v B cv) 27))) :=
    ⟨Nat.le_trans hw.size hbel.size, Kp.of hbel hw.size, ho.later hbel, (Blk.new _ _ _).alloc _, Blk.new' (by simp) _ _⟩
  obtain ⟨oA, oc, hov, hoc⟩ := own8_form ho
  have hWl : W.length ≤ 536870912 := by omega
  clear hK hlk hkr ho hw hbel hbd hoc
  subst hov
  obtain ⟨vk, vb, vt, vp, ks⟩ := v
  rw [vlC_five] at *
  simp only at *
  go_enter Try.func35, Try.ntmps35
  go_upto_region 2 with (fail)
  generalize (w.alloc (.cells #[.slice A l.length c] 55)).alloc (.cells #[.int .i64 vk, .int .u8 ((vb.toNat : Nat) : Int), .string (bs vt), .int .i64 vp, .slice B ks.len cv] 27) = w1 at *
  have HR : Hid (∀ w w' : World, Below w.heap.size w w' → FrR w0.heap.size L w w') := fun w w' h => FrR.of w w' h
  refine G.wp_region_stable_mid (R := (FrR w0.heap.size L)) HR.out 6 #[true, true, true, true, true, true, false, false, false, false, false, false] (S := (FrS w0.heap.size w W (.slice oA W.length oc) A l c ⟨vk, vb, vt, vp, ks⟩ B cv w.heap.size (w.heap.size + 1))) (hSt := fun _ _ h hr => h.grow HLP.out hr) (plan := [[(5, none)], [(1, none)], [(2, none)], [(22, some 1), (23, some 2)], [(8, none)], [(4, none)]]) rfl (by kernel_rfl) (by kernel_rfl) (by kernel_rfl) (by kernel_rfl) ?hS ?_
  rotate_left
  iterate 3 first
    | (refine G.chain_skip (by rfl) (by rfl) ?_)
    | (apply G.chain_want (by rfl)
       · intro act wx hS hr
         simp at hr
         obtain ⟨b0, b1, b2, b3, b4⟩ := vl_cells hS.bv
         have e0 := hS.box.cell 0
         simp at e0
         go_simp
         (try go_ints)
         first
           | exact G.Done.same HR.out
      )
  (refine G.chain_rel (VwZ w0.heap.size L) (VwZ.grow _ _) (by rfl) ?_ ?_
   · intro act wx hS hr
     simp at hr
     obtain ⟨b0, b1, b2, b3, b4⟩ := vl_cells hS.bv
     have e0 := hS.box.cell 0
     simp at e0
     obtain ⟨hr1, hr2⟩ := hr
     refine wp_append_zeros (.tmp 22) (.tmp 23) rfl w0.heap.size (.slice oA W.length oc) W (by simp [Act.eval, hr1]) hS.own 2 (by simp [Act.eval, hr2]) (by decide) (by decide) (by omega) hS.lo ?_
     intro v' w' q1 q2
     rw [← HL.out] at q1 q2
     exact G.Done.rel q2 ⟨Nat.le_trans hS.lo (q2.out hS.lo).1.size, q1⟩
     all_goals go_simp
  )
  iterate 2 first
    | (refine G.chain_skip (by rfl) (by rfl) ?_)
    | (apply G.chain_want (by rfl)
       · intro act wx hS hr
         simp at hr
         obtain ⟨b0, b1, b2, b3, b4⟩ := vl_cells hS.bv
         have e0 := hS.box.cell 0
         simp at e0
         go_simp
         (try go_ints)
         first
           | exact G.Done.same HR.out
      )
  show ∀ w', _ → _
  intro wz hz
  simp [Act.put]
  case hS => exact HS0.out
  intro y hy
  have HSZ := Lib.hid hz
  have HY := Lib.hid hy
  clear hz hy HS0
  obtain ⟨yA, yc, hyv, hyc⟩ := own8_form HY.out.2
  subst hyv
  clear hyc
  have HLl := Lib.hid hLl
  rw [hLl] at HY ⊢
  clear hLl
  refine wpAny_ready (rs := [6]) (by kernel_rfl) (by simp) ?_
  refine AllReady.cons rfl (fun K hK => ?_) AllReady.nil
  go_simp
  refine (HK.out _ _ (HW0.out.trans HSZ.out.kp.bel) HY.out.2).mono ?_; rintro e w3 ⟨x3, rfl, hx3, hk3⟩
  refine hK _ _ ?_; clear hK K
  have HK3 := Lib.hid (HSZ.out.kp.trans hk3)
  clear hk3 HK HSZ HY
  cases r with
  | none =>
    have hx3 : x3 = .tuple #[.slice none 0 0, .bool false] := hx3
    subst hx3
    clear HV
    refine wpAny_take (i := 7) (v := ?_) rfl (by kernel_rfl) (by kernel_rfl) (by kernel_rfl) (fun _ _ _ h => h) (Or.inl ⟨by rfl, ?_⟩) ?_
    rotate_left
    · (intro w; go_simp; try with_reducible rfl)
    refine wpAny_take (i := 8) (v := ?_) rfl (by kernel_rfl) (by kernel_rfl) (by kernel_rfl) (fun _ _ _ h => h) (Or.inl ⟨by rfl, ?_⟩) ?_
    rotate_left
    · (intro w; go_simp; try with_reducible rfl)
    refine wpAny_take (i := 9) (v := ?_) rfl (by kernel_rfl) (by kernel_rfl) (by kernel_rfl) (fun _ _ _ h => h) (Or.inl ⟨by rfl, ?_⟩) ?_
    rotate_left
    · (intro w; go_simp; try with_reducible rfl)
    refine wpAny_take (i := 10) (v := ?_) rfl (by kernel_rfl) (by kernel_rfl) (by kernel_rfl) (fun _ _ _ h => h) (Or.inl ⟨by rfl, ?_⟩) ?_
    rotate_left
    · (intro w; go_simp; try with_reducible rfl)
    refine wpAny_take (i := 11) (v := ?_) rfl (by kernel_rfl) (by kernel_rfl) (by kernel_rfl) (fun _ _ _ h => h) (Or.inl ⟨by rfl, ?_⟩) ?_
    rotate_left
    · (intro w; go_simp; try with_reducible rfl)
    refine wpAny_done (by kernel_rfl) ?_ _
    simp [Act.put]
    have hw2 : (0 : Int) ≤ (W.length : Int) := by omega
    go_wp2
    go_ret2
    exact ⟨_, rfl, rfl, HK3.out⟩
  | some V =>
    obtain ⟨v3, rfl, ho3⟩ := hx3
    have hvl := HV.out V rfl
    obtain ⟨g, cap, cur, rfl, hg1, hg2, hg3, hg4, hg5, -⟩ := own8_blk ho3 (by intro e; have := congrArg List.length e; rw [List.length_append, HLl.out] at this; simp at this)
    have hnn : (L ++ V).length = W.length + 2 + V.length := by rw [List.length_append, HLl.out]
    rw [hnn] at ho3
    have HO3 := Lib.hid ho3
    clear ho3 HV hg1 hg2 hg3 hg4 hg5
    rw [hnn]
    clear hnn
    refine wpAny_take (i := 7) (v := ?_) rfl (by kernel_rfl) (by kernel_rfl) (by kernel_rfl) (fun _ _ _ h => h) (Or.inl ⟨by rfl, ?_⟩) ?_
    rotate_left
    · (intro w; go_simp; try with_reducible rfl)
    refine wpAny_take (i := 8) (v := ?_) rfl (by kernel_rfl) (by kernel_rfl) (by kernel_rfl) (fun _ _ _ h => h) (Or.inl ⟨by rfl, ?_⟩) ?_
    rotate_left
    · (intro w; go_simp; try with_reducible rfl)
    refine wpAny_take (i := 9) (v := ?_) rfl (by kernel_rfl) (by kernel_rfl) (by kernel_rfl) (fun _ _ _ h => h) (Or.inl ⟨by rfl, ?_⟩) ?_
    rotate_left
    · (intro w; go_simp; try with_reducible rfl)
    refine wpAny_take (i := 10) (v := ?_) rfl (by kernel_rfl) (by kernel_rfl) (by kernel_rfl) (fun _ _ _ h => h) (Or.inl ⟨by rfl, ?_⟩) ?_
    rotate_left
    · (intro w; go_simp; try with_reducible rfl)
    refine wpAny_take (i := 11) (v := ?_) rfl (by kernel_rfl) (by kernel_rfl) (by kernel_rfl) (fun _ _ _ h => h) (Or.inl ⟨by rfl, ?_⟩) ?_
    rotate_left
    · (intro w; go_simp; try with_reducible rfl)
    refine wpAny_done (by kernel_rfl) ?_ _
    simp [Act.put]
    have hsub : ((W.length : Int) + 2 + (V.length : Int) - ((W.length : Int) + 2)) = (V.length : Int) := by omega
    have HOZ : Hid (L ++ V = W ++ hdK 2 V.length 0 ++ V) := by unfold Hid; rw [HL.out]; rfl
    by_cases hs : V.length ≤ 65535
    · have hdv : ((V.length : Int) / 65536 != 0) = false := by
        have : (V.length : Int) / 65536 = 0 := by omega
        rw [this]; rfl
      have HF : Hid (frmH 2 (some V) = some (byU (V.length / 256) :: byU (V.length % 256) :: V)) := by unfold Hid frmH; simp [hs]
      have HS1 : Hid (FrL w0.heap.size w W V 2 g cap (.int .i64 ((0 : Nat) : Int)) w3) := ⟨0, by decide, rfl, by rw [← HOZ.out]; exact HO3.out, HK3.out⟩
      clear HO3 HK3 HOZ
      go_wp2
      go_loopw [44] (FrL w0.heap.size w W V 2 g cap) (fun x _ => 2 - (intOf x).toNat)
      case atStart => exact HS1.out
      case round =>
        obtain ⟨k, hk, rfl, hown, hkp⟩ := hrel
        have HO := Lib.hid hown
        have HKP := Lib.hid hkp
        clear hown hkp HS1
        by_cases hlt : k < 2
        · by_cases hk0 : k = 0
          · subst hk0
            have hwl : (W ++ hdK 2 V.length 0 ++ V).length = W.length + 2 + V.length := by simp [hdK]; omega
            rw [← hwl] at HO
            obtain ⟨s1, s2, s3, s4⟩ := own8_set HO.out (W.length + 1) (by rw [hwl]; omega) (byU (V.length % 256))
            have hset : (W ++ hdK 2 V.length 0 ++ V).set (W.length + 1) (byU (V.length % 256)) = W ++ hdK 2 V.length 1 ++ V := by simp [hdK, List.set_append]
            rw [hset, hwl] at s1
            have hb : (((byU (V.length % 256)).toNat : Nat) : Int) = (V.length : Int) % 256 := by unfold byU; simp
            rw [hb] at s1 s2
            have HX1 := Lib.hid s1
            have HX2 := Lib.hid (HKP.out.trans (s2 (Nat.le_trans HW0.out.size HKP.out.size)))
            have hiz : (W.length : Int) + 1 < ((W.length + 2 + V.length : Nat) : Int) := by omega
            clear s1 s2 hset hb hwl hlt
            go_wp2
            go_roundw
            case rel => exact ⟨1, by decide, rfl, HX1.out, HX2.out⟩
            case measure => decide
          · obtain rfl : k = 1 := by omega
            have hwl : (W ++ hdK 2 V.length 1 ++ V).length = W.length + 2 + V.length := by simp [hdK]; omega
            rw [← hwl] at HO
            obtain ⟨s1, s2, s3, s4⟩ := own8_set HO.out W.length (by rw [hwl]; omega) (byU (V.length / 256))
            have hset : (W ++ hdK 2 V.length 1 ++ V).set W.length (byU (V.length / 256)) = W ++ hdK 2 V.length 2 ++ V := by simp [hdK]
            rw [hset, hwl] at s1
            have hb : (((byU (V.length / 256)).toNat : Nat) : Int) = (V.length : Int) / 256 := by unfold byU; simp; omega
            rw [hb] at s1 s2
            have HX1 := Lib.hid s1
            have HX2 := Lib.hid (HKP.out.trans (s2 (Nat.le_trans HW0.out.size HKP.out.size)))
            have hiz : (W.length : Int) < ((W.length + 2 + V.length : Nat) : Int) := by omega
            have hb0 : 0 ≤ (V.length : Int) / 256 := by omega
            have hb1 : (V.length : Int) / 256 ≤ 255 := by omega
            clear s1 s2 hset hb hwl hlt hk0
            go_wp2
            go_roundw
            case rel => exact ⟨2, by decide, rfl, HX1.out, HX2.out⟩
            case measure => decide
        · obtain rfl : k = 2 := by omega
          have HE : Hid (GotV w0.heap.size W (frmH 2 (some V)) (.tuple #[.slice (some ⟨g, 0, none⟩) (W.length + 2 + V.length) cap, .bool true]) wr) := by
            unfold Hid
            rw [HF.out]
            refine ⟨_, rfl, ?_⟩
            have := HO.out
            simpa [hdK] using this
          clear HO HF
          go_wp2
          go_ret2
          exact ⟨_, rfl, HE.out, HKP.out⟩
    · have hdv : ((V.length : Int) / 65536 != 0) = true := by
        have : (V.length : Int) / 65536 ≠ 0 := by omega
        simp [this]
      have HF : Hid (frmH 2 (some V) = none) := by unfold Hid frmH; simp [hs]
      clear HO3 HOZ
      go_wp2
      go_ret2
      exact ⟨_, rfl, by rw [HF.out]; rfl, HK3.out⟩

end Go.Proofs.Ytgdlbahfmddkaaa
/- What a value of a part writes behind others: the program's walk; what a value writes. -/
namespace Go.Proofs.Ytgdlbahfmddkaaa
open Go Go.RowKit
set_option linter.unusedVariables false
set_option linter.unusedSimpArgs false
set_option maxRecDepth 100000

theorem gth_len {l : List Nd} (htx : ∀ n ∈ l, n.text.length ≤ 2000) (m : Nat) : ∀ (s : Vs) (f : Nat → Nat) (V : Wd), gthW m (wrS l f s) = some V → V.length ≤ 2002 * cntVs s
  | .nil, f, V, h => by
    have : V = [] := by simpa [wrS, gthW] using h.symm
    rw [this]; simp
  | .cons k b t p ks r, f, V, h => by
    rw [wrS, gthW] at h
    cases hf : fitW m (valW (atN l (f 0)) k b t p (wrS l (fun j => (kidN (atN l (f 0)) p j).toNat) ks)) with
    | none => rw [hf] at h; cases h
    | some w =>
      rw [hf] at h
      cases hg : gthW m (wrS l (fun j => f (j + 1)) r) with
      | none => rw [hg] at h; cases h
      | some U =>
        rw [hg] at h
        have hV : V = w ++ U := by simpa using h.symm
        have h1 := gth_len htx m r _ U hg
        have h2 := wrV_len (l := l) htx ⟨k, b, t, p, ks⟩ (f 0) w (fit_some hf)
        rw [hV, List.length_append, cntVs]
        unfold cntV at h2
        simp only at h2
        omega
theorem wr_gth {l : List Nd} {q : Nat} {v : Vl} {n : Nd} (hn : atN l q = n) (hh : headV n v.kind v.byte v.text v.pick v.kids.len) : wrV l q v = (gthW (leastK n) (wrS l (fun j => (kidN n v.pick j).toNat) v.kids)).bind (capW n v.byte) := by
  unfold wrV
  rw [hn, gth_val, wrS_length, if_pos hh]
structure PaS (w0 : World) (A : Option Addr) (l : List Nd) (c : Nat) (v : Vl) (B : Option Addr) (cv : Nat) (ba oa : Nat) (n : Nd) (w : World) : Prop where
  bel : Below w0.heap.size w0 w
  box : Blk w w0.heap.size #[.slice A l.length c] 55
  bv : Blk w (w0.heap.size + 1) (vlC v B cv) 27
  lt : ba < w0.heap.size
  ten : At10 w0 ba oa n
theorem PaS.later {w0 w w' : World} {A : Option Addr} {l : List Nd} {c : Nat} {v : Vl} {B : Option Addr} {cv ba oa : Nat} {n : Nd} (h : PaS w0 A l c v B cv ba oa n w) (hb : Below w.heap.size w w') : PaS w0 A l c v B cv ba oa n w' :=
  ⟨h.bel.trans (hb.mono h.bel.size), h.box.later hb, h.bv.later hb, h.lt, h.ten⟩
theorem PaS.at10 {w0 w : World} {A : Option Addr} {l : List Nd} {c : Nat} {v : Vl} {B : Option Addr} {cv ba oa : Nat} {n : Nd} (h : PaS w0 A l c v B cv ba oa n w) : At10 w ba oa n := by
  have hc : ∀ o, w.cell? ⟨ba, o, none⟩ = w0.cell? ⟨ba, o, none⟩ := fun o => h.bel.cell (p := ⟨ba, o, none⟩) h.lt
  have := h.ten
  unfold At10 at *
  simp only [hc]
  exact this
set_option maxHeartbeats 32000000 in
theorem part_step {w0 : World} {A : Option Addr} {l : List Nd} {c q : Nat} (hF : Form l) (hc : l.length ≤ c) (hlen : l.length ≤ 536870912) (htx : ∀ n ∈ l, n.text.length ≤ 2000) (hrow : NRow w0 A l) (hq : q < l.length) (hP : ∀ p, p < q → PartC w0 A l c p) : PartC w0 A l c q := by
  intro i v B cv W ow w hqi hil hcv hkr hbd hw ho
  have hk9 : 1 ≤ (atN l q).kind ∧ (atN l q).kind ≤ 9 := by
    refine ⟨?_, (hF.2.1 q hq).kind9⟩
    obtain ⟨n, hn⟩ : ∃ n, atN l q = n := ⟨_, rfl⟩
    have ho9 := hF.2.1 q hq
    rw [hn] at ho9 ⊢
    cases ho9.cs hn with
    | leaf hk hf => unfold leafK at hk; omega
    | one hk hi0 ha hb h7 hr hcl hf => omega
    | two hk hi0 hb ha hf0 hl hcl hf => omega
  have hvl : v.kids.len < 4611686018427387904 := by have := cntVs_len v.kids; unfold cntV at hbd; omega
  have hIO : ∀ w', Calls Try.prog 34 #[.agg (ndC (atN l q)), .agg (vlC v B cv)] w' (Ans w' (.bool (decide (headV (atN l q) v.kind v.byte v.text v.pick v.kids.len)))) := fun w' => visof_any _ hk9.1 hk9.2 v B cv w' hvl
  have HIO := Lib.hid hIO
  -- the node's own kids stand ahead of it
  have hkid : headV (atN l q) v.kind v.byte v.text v.pick v.kids.len → ∀ k, k < v.kids.len → ∃ p : Nat, kidN (atN l q) v.pick k = (p : Int) ∧ p < q := fun hh k hk => by
    obtain ⟨n, hn⟩ : ∃ n, atN l q = n := ⟨_, rfl⟩
    have ho9 := hF.2.1 q hq
    rw [hn] at ho9 hh ⊢
    have hc1 := hh.2.2.2.2.2.1
    clear hh
    cases ho9.cs hn with
    | leaf hk9 hf => unfold leafK at hk9; have := hc1 (by omega); omega
    | one hk9 hi0 ha hb h7 hr hcl hf => exact ⟨n.a.toNat, by unfold kidN; rw [if_neg (by omega)]; omega, by omega⟩
    | two hk9 hi0 hb ha hf0 hl hcl hf =>
      have hle := firstP_le l (q - 1)
      unfold kidN
      split
      · exact ⟨n.b.toNat, by omega, by omega⟩
      · exact ⟨n.a.toNat, by omega, by omega⟩
  have htn : (atN l q).text.length ≤ 2000 := htx _ (by unfold atN; rw [List.getD_eq_getElem?_getD, List.getElem?_eq_getElem hq]; exact List.getElem_mem _)
  have hK : headV (atN l q) v.kind v.byte v.text v.pick v.kids.len → KidsC w0 A l c q v := fun hh => kids_any hc hq hlen htx hP hrow v (hkid hh)
  have hGL : ∀ V, gthW (leastK (atN l q)) (wrS l (fun j => (kidN (atN l q) v.pick j).toNat) v.kids) = some V → V.length ≤ 2002 * cntVs v.kids := fun V hV => gth_len htx _ _ _ V hV
  have hbd2 : W.length + 2002 * cntVs v.kids + 2002 ≤ 536870912 := by unfold cntV at hbd; omega
  have HCK : Hid (headV (atN l q) v.kind v.byte v.text v.pick v.kids.len → ∀ w', Below w.heap.size w w' → Calls Try.prog 36 #[.agg #[.slice A l.length c], ow, .agg (vlC v B cv), .int .i64 (q : Int)] w' (GotP w0.heap.size W w' (gthW (leastK (atN l q)) (wrS l (fun j => (kidN (atN l q) v.pick j).toNat) v.kids)))) :=
    fun hh w' h => hK hh B cv W ow w' hcv hkr (by omega) (hw.trans (h.mono hw.size)) (ho.later h)
  have HC1 : Hid (headV (atN l q) v.kind v.byte v.text v.pick v.kids.len → ∀ w', Below w.heap.size w w' → Calls Try.prog 35 #[.agg #[.slice A l.length c], ow, .int .i64 1, .agg (vlC v B cv), .int .i64 (q : Int)] w' (GotP w0.heap.size W w' (frmH 1 (gthW (leastK (atN l q)) (wrS l (fun j => (kidN (atN l q) v.pick j).toNat) v.kids))))) :=
    fun hh w' h => framed_one (hK hh) hGL B cv W ow w' hcv hkr (by omega) (hw.trans (h.mono hw.size)) (ho.later h)
  have HC2 : Hid (headV (atN l q) v.kind v.byte v.text v.pick v.kids.len → ∀ w', Below w.heap.size w w' → Calls Try.prog 35 #[.agg #[.slice A l.length c], ow, .int .i64 2, .agg (vlC v B cv), .int .i64 (q : Int)] w' (GotP w0.heap.size W w' (frmH 2 (gthW (leastK (atN l q)) (wrS l (fun j => (kidN (atN l q) v.pick j).toNat) v.kids))))) :=
    fun hh w' h => framed_two (hK hh) hGL B cv W ow w' hcv hkr (by omega) (hw.trans (h.mono hw.size)) (ho.later h)
  have HNO : Hid (¬ headV (atN l q) v.kind v.byte v.text v.pick v.kids.len → wrV l q v = none) := fun h => wr_none h
  have HYES : Hid (headV (atN l q) v.kind v.byte v.text v.pick v.kids.len → wrV l q v = (gthW (leastK (atN l q)) (wrS l (fun j => (kidN (atN l q) v.pick j).toNat) v.kids)).bind (capW (atN l q) v.byte)) := fun h => wr_gth rfl h
  have HRN : Hid (v.kids.len = 0 → wrS l (fun j => (kidN (atN l q) v.pick j).toNat) v.kids = []) := fun h => List.length_eq_zero_iff.1 (by rw [wrS_length]; exact h)
  have HW0 := Lib.hid hw
  have HO := Lib.hid ho
  obtain ⟨ba, oa, rfl, hbl, -⟩ := hrow q hq
  have hten : At10 w ba (oa + q * 10) (atN l q) := (hrow.later hw).at hq rfl
  have hbel := ((Below.refl w.heap.size w).alloc (Nat.le_refl _) (.cells #[.slice (some ⟨ba, oa, none⟩) l.length c] 55)).alloc (by simp) (.cells (vlC v B cv) 27)
  have HS0 : Hid (PaS w (some ⟨ba, oa, none⟩) l c v B cv ba (oa + q * 10) (atN l q) ((w.alloc (.cells #[.slice (some ⟨ba, oa, none⟩) l.length c] 55)).alloc (.cells (vlC v B cv) 27))) :=
    ⟨hbel, (Blk.new _ _ _).alloc _, Blk.new' (by simp) _ _, Nat.lt_of_lt_of_le hbl hw.size, hten⟩
  obtain ⟨oA, oc, hov, hoc⟩ := own8_form ho
  have hqz : decide ((q : Int) < 0) = false := decide_eq_false (by omega)
  have hqz2 : ¬ (q : Int) < 0 := by omega
  have hqi2 : ¬ (i : Int) ≤ (q : Int) := by omega
  have hqi3 : decide ((i : Int) ≤ (q : Int)) = false := decide_eq_false hqi2
  have hql : (q : Int) < (l.length : Int) := by omega
  clear hF hrow hP hIO hkid hK hGL hkr ho hw hten hbel hoc htx hbd hbl
  subst hov
  generalize wrS l (fun j => (kidN (atN l q) v.pick j).toNat) v.kids = rs at *
  generalize wrV l q v = res at *
  generalize atN l q = n at *
  obtain ⟨vk, vb, vt, vp, ks⟩ := v
  obtain ⟨nk, na, nb, nlo, nhi, ncls, ntext⟩ := n
  rw [vlC_five] at *
  simp only at *
  unfold ndC at HIO
  simp only at HIO
  by_cases hh : headV ⟨nk, na, nb, nlo, nhi, ncls, ntext⟩ vk vb vt vp ks.len
  · rw [decide_eq_true hh] at HIO
    have HCK := Lib.hid (HCK.out hh)
    have HC1 := Lib.hid (HC1.out hh)
    have HC2 := Lib.hid (HC2.out hh)
    have HYES := Lib.hid (HYES.out hh)
    clear HNO
    have hkv : vk = nk := hh.1
    subst hkv
    by_cases k2 : vk = 2
    · have hc0 : ks.len = 0 := hh.2.2.2.2.2.1 (.inr (.inl k2))
      have HRES : Hid (res = some [vb]) := by unfold Hid; rw [HYES.out, HRN.out hc0]; unfold gthW capW; simp [k2]
      have z2 : (vk == 2) = true := by simp [k2]
      clear HYES HCK HC1 HC2 HRN hh hc0 k2
      go_enter Try.func25, Try.ntmps25
      go_upto_region 1 with (fail)
      generalize (w.alloc (.cells #[.slice (some ⟨ba, oa, none⟩) l.length c] 55)).alloc (.cells #[.int .i64 vk, .int .u8 ((vb.toNat : Nat) : Int), .string (bs vt), .int .i64 vp, .slice B ks.len cv] 27) = w1 at *
      refine wp_region_stable (S := (PaS w (some ⟨ba, oa, none⟩) l c ⟨vk, vb, vt, vp, ks⟩ B cv ba (oa + q * 10) ⟨vk, na, nb, nlo, nhi, ncls, ntext⟩)) (hSt := fun _ _ h hb => h.later hb) (plan := [[(4, none)], [(12, some 0)], [(13, some 1)], [(4, none)], [(3, none)], [(15, some 3), (16, some 4)], [(14, some 2), (17, some 5)], [(18, some 6)], [(5, none)], [(20, some 8)], [(4, none)], [(21, some 9), (22, some 10)], [(23, some 11)], [(7, none)], [(24, some 12), (25, some 13)], [(26, some 14)], [(19, some 7), (27, some 15)]]) (by kernel_rfl) (by kernel_rfl) (by kernel_rfl) ?hS ?_
      rotate_left
      iterate 17 first
        | (refine chain_skip (by rfl) (by rfl) ?_)
        | (apply chain_want (by rfl)
           · intro act wx hS hr
             simp at hr
             obtain ⟨b0, b1, b2, b3, b4⟩ := vl_cells hS.bv
             obtain ⟨f0, f1, f2, f3, f4, f5, f6, f7, f8, f9⟩ := hS.at10
             simp only at f0 f1 f2 f3 f4 f5 f6 f7 f8 f9
             have d0 := hS.box.cell 0
             simp at d0
             go_simp
             (try go_ints)
             first
               | ((with_reducible refine (HIO.out _).mono ?_); rintro e w' ⟨rfl, hb⟩; exact Done.mk hb)
               | exact Done.same
          )
      show ∀ w', _ → _
      intro wz hz
      simp [Act.put]
      case hS => exact HS0.out
      have HS2 := Lib.hid hz
      clear hz HS0
      obtain ⟨b0, b1, b2, b3, b4⟩ := vl_cells HS2.out.bv
      have d0 := HS2.out.box.cell 0
      simp at d0
      have HX : Hid (IsW [vb] (.slice (some ⟨wz.heap.size, 0, none⟩) 1 1) (wz.alloc (.cells #[.int .u8 ((vb.toNat : Nat) : Int)] 5))) := own_isW (own_new (w := wz) (W := [vb]) (cs := #[.int .u8 ((vb.toNat : Nat) : Int)]) rfl (by simp)) (by simp)
      have HAL : Hid (Below wz.heap.size wz (wz.alloc (.cells #[.int .u8 ((vb.toNat : Nat) : Int)] 5))) := (Below.refl _ _).alloc (Nat.le_refl _) _
      have HLO : Hid (w0.heap.size ≤ (wz.alloc (.cells #[.int .u8 ((vb.toNat : Nat) : Int)] 5)).heap.size) := Nat.le_trans HW0.out.size (Nat.le_trans HS2.out.bel.size HAL.out.size)
      go_wp2_with (at_builtin; refine wpList_append_w rfl _ _ rfl w0.heap.size (.slice oA W.length oc) W rfl ((HO.out.later HS2.out.bel).later HAL.out) [vb] _ rfl HX.out (by simp only [List.length_cons, List.length_nil]; omega) HLO.out ?_; intro v6 w6 h1 h2; have HO6 := Lib.hid h1; have HK6 := Lib.hid ((Kp.of (HS2.out.bel.trans (HAL.out.mono HS2.out.bel.size)) HW0.out.size).trans (Kp.grown ((HO.out.later HS2.out.bel).later HAL.out) h2 HLO.out)); clear h1 h2)
      go_wp2
      go_ret2
      exact ⟨_, rfl, by rw [HRES.out]; exact ⟨_, rfl, HO6.out⟩, HK6.out⟩
    · have z2 : (vk == 2) = false := by rw [beq_eq_false_iff_ne]; exact k2
      by_cases k3 : vk = 3
      · have hc0 : ks.len = 0 := hh.2.2.2.2.2.1 (.inr (.inr k3))
        have hvt : vt = ntext := by have := hh.2.2.2.1; rw [if_pos k3] at this; exact this
        have HRES : Hid (res = some vt) := by unfold Hid; rw [HYES.out, HRN.out hc0, hvt]; unfold gthW capW; simp [k3]
        have htl : vt.length ≤ 2000 := by rw [hvt]; exact htn
        have z3 : (vk == 3) = true := by simp [k3]
        clear HYES HCK HC1 HC2 HRN hh hc0 k2 k3 hvt
        go_enter Try.func25, Try.ntmps25
        go_upto_region 1 with (fail)
        generalize (w.alloc (.cells #[.slice (some ⟨ba, oa, none⟩) l.length c] 55)).alloc (.cells #[.int .i64 vk, .int .u8 ((vb.toNat : Nat) : Int), .string (bs vt), .int .i64 vp, .slice B ks.len cv] 27) = w1 at *
        refine wp_region_stable (S := (PaS w (some ⟨ba, oa, none⟩) l c ⟨vk, vb, vt, vp, ks⟩ B cv ba (oa + q * 10) ⟨vk, na, nb, nlo, nhi, ncls, ntext⟩)) (hSt := fun _ _ h hb => h.later hb) (plan := [[(4, none)], [(12, some 0)], [(13, some 1)], [(4, none)], [(3, none)], [(15, some 3), (16, some 4)], [(14, some 2), (17, some 5)], [(18, some 6)], [(5, none)], [(20, some 8)], [(4, none)], [(21, some 9), (22, some 10)], [(23, some 11)], [(7, none)], [(24, some 12), (25, some 13)], [(26, some 14)], [(19, some 7), (27, some 15)]]) (by kernel_rfl) (by kernel_rfl) (by kernel_rfl) ?hS ?_
        rotate_left
        iterate 17 first
          | (refine chain_skip (by rfl) (by rfl) ?_)
          | (apply chain_want (by rfl)
             · intro act wx hS hr
               simp at hr
               obtain ⟨b0, b1, b2, b3, b4⟩ := vl_cells hS.bv
               obtain ⟨f0, f1, f2, f3, f4, f5, f6, f7, f8, f9⟩ := hS.at10
               simp only at f0 f1 f2 f3 f4 f5 f6 f7 f8 f9
               have d0 := hS.box.cell 0
               simp at d0
               go_simp
               (try go_ints)
               first
                 | ((with_reducible refine (HIO.out _).mono ?_); rintro e w' ⟨rfl, hb⟩; exact Done.mk hb)
                 | exact Done.same
            )
        show ∀ w', _ → _
        intro wz hz
        simp [Act.put]
        case hS => exact HS0.out
        have HS2 := Lib.hid hz
        clear hz HS0
        obtain ⟨b0, b1, b2, b3, b4⟩ := vl_cells HS2.out.bv
        have d0 := HS2.out.box.cell 0
        simp at d0
        have HLO : Hid (w0.heap.size ≤ wz.heap.size) := Nat.le_trans HW0.out.size HS2.out.bel.size
        go_wp2_with (at_builtin; refine wpList_append_txt rfl _ _ rfl w0.heap.size (.slice oA W.length oc) W rfl (HO.out.later HS2.out.bel) vt rfl (by omega) HLO.out ?_; intro v6 w6 h1 h2; have HO6 := Lib.hid h1; have HK6 := Lib.hid ((Kp.of HS2.out.bel HW0.out.size).trans (Kp.grown (HO.out.later HS2.out.bel) h2 HLO.out)); clear h1 h2)
        go_wp2
        go_ret2
        exact ⟨_, rfl, by rw [HRES.out]; exact ⟨_, rfl, HO6.out⟩, HK6.out⟩
      · have z3 : (vk == 3) = false := by rw [beq_eq_false_iff_ne]; exact k3
        by_cases k8 : vk = 8
        · have z8 : (vk == 8) = true := by simp [k8]
          have HRES : Hid (res = frmH 1 (gthW (leastK ⟨vk, na, nb, nlo, nhi, ncls, ntext⟩) rs)) := by
            unfold Hid; rw [HYES.out]
            cases gthW (leastK ⟨vk, na, nb, nlo, nhi, ncls, ntext⟩) rs with
            | none => rfl
            | some V => simp [capW, frmH, k8]
          clear HYES HCK HC2 HRN hh k2 k3 k8
          go_enter Try.func25, Try.ntmps25
          go_upto_region 1 with (fail)
          generalize (w.alloc (.cells #[.slice (some ⟨ba, oa, none⟩) l.length c] 55)).alloc (.cells #[.int .i64 vk, .int .u8 ((vb.toNat : Nat) : Int), .string (bs vt), .int .i64 vp, .slice B ks.len cv] 27) = w1 at *
          refine wp_region_stable (S := (PaS w (some ⟨ba, oa, none⟩) l c ⟨vk, vb, vt, vp, ks⟩ B cv ba (oa + q * 10) ⟨vk, na, nb, nlo, nhi, ncls, ntext⟩)) (hSt := fun _ _ h hb => h.later hb) (plan := [[(4, none)], [(12, some 0)], [(13, some 1)], [(4, none)], [(3, none)], [(15, some 3), (16, some 4)], [(14, some 2), (17, some 5)], [(18, some 6)], [(5, none)], [(20, some 8)], [(4, none)], [(21, some 9), (22, some 10)], [(23, some 11)], [(7, none)], [(24, some 12), (25, some 13)], [(26, some 14)], [(19, some 7), (27, some 15)]]) (by kernel_rfl) (by kernel_rfl) (by kernel_rfl) ?hS ?_
          rotate_left
          iterate 17 first
            | (refine chain_skip (by rfl) (by rfl) ?_)
            | (apply chain_want (by rfl)
               · intro act wx hS hr
                 simp at hr
                 obtain ⟨b0, b1, b2, b3, b4⟩ := vl_cells hS.bv
                 obtain ⟨f0, f1, f2, f3, f4, f5, f6, f7, f8, f9⟩ := hS.at10
                 simp only at f0 f1 f2 f3 f4 f5 f6 f7 f8 f9
                 have d0 := hS.box.cell 0
                 simp at d0
                 go_simp
                 (try go_ints)
                 first
                   | ((with_reducible refine (HIO.out _).mono ?_); rintro e w' ⟨rfl, hb⟩; exact Done.mk hb)
                   | exact Done.same
              )
          show ∀ w', _ → _
          intro wz hz
          simp [Act.put]
          case hS => exact HS0.out
          have HS2 := Lib.hid hz
          clear hz HS0
          obtain ⟨b0, b1, b2, b3, b4⟩ := vl_cells HS2.out.bv
          have d0 := HS2.out.box.cell 0
          simp at d0
          go_wp2_with fail
          refine (HC1.out _ HS2.out.bel).mono ?_; rintro e w5 ⟨x5, rfl, hx5, hk5⟩
          have HK5 := Lib.hid ((Kp.of HS2.out.bel HW0.out.size).trans hk5)
          clear hk5 HC1 HS2 d0 b0 b1 b2 b3 b4
          generalize (frmH 1 (gthW (leastK ⟨vk, na, nb, nlo, nhi, ncls, ntext⟩) rs)) = r at *
          cases r with
          | none =>
            have hx5 : x5 = .tuple #[.slice none 0 0, .bool false] := hx5
            subst hx5
            go_wp2
            go_ret2
            exact ⟨_, rfl, by rw [HRES.out]; rfl, HK5.out⟩
          | some V =>
            obtain ⟨v5, rfl, ho5⟩ := hx5
            have HO5 := Lib.hid ho5
            clear ho5
            go_wp2
            go_ret2
            exact ⟨_, rfl, by rw [HRES.out]; exact ⟨_, rfl, HO5.out⟩, HK5.out⟩
        · have z8 : (vk == 8) = false := by rw [beq_eq_false_iff_ne]; exact k8
          by_cases k9 : vk = 9
          · have z9 : (vk == 9) = true := by simp [k9]
            have HRES : Hid (res = frmH 2 (gthW (leastK ⟨vk, na, nb, nlo, nhi, ncls, ntext⟩) rs)) := by
              unfold Hid; rw [HYES.out]
              cases gthW (leastK ⟨vk, na, nb, nlo, nhi, ncls, ntext⟩) rs with
              | none => rfl
              | some V => simp [capW, frmH, k9]
            clear HYES HCK HC1 HRN hh k2 k3 k8 k9
            go_enter Try.func25, Try.ntmps25
            go_upto_region 1 with (fail)
            generalize (w.alloc (.cells #[.slice (some ⟨ba, oa, none⟩) l.length c] 55)).alloc (.cells #[.int .i64 vk, .int .u8 ((vb.toNat : Nat) : Int), .string (bs vt), .int .i64 vp, .slice B ks.len cv] 27) = w1 at *
            refine wp_region_stable (S := (PaS w (some ⟨ba, oa, none⟩) l c ⟨vk, vb, vt, vp, ks⟩ B cv ba (oa + q * 10) ⟨vk, na, nb, nlo, nhi, ncls, ntext⟩)) (hSt := fun _ _ h hb => h.later hb) (plan := [[(4, none)], [(12, some 0)], [(13, some 1)], [(4, none)], [(3, none)], [(15, some 3), (16, some 4)], [(14, some 2), (17, some 5)], [(18, some 6)], [(5, none)], [(20, some 8)], [(4, none)], [(21, some 9), (22, some 10)], [(23, some 11)], [(7, none)], [(24, some 12), (25, some 13)], [(26, some 14)], [(19, some 7), (27, some 15)]]) (by kernel_rfl) (by kernel_rfl) (by kernel_rfl) ?hS ?_
            rotate_left
            iterate 17 first
              | (refine chain_skip (by rfl) (by rfl) ?_)
              | (apply chain_want (by rfl)
                 · intro act wx hS hr
                   simp at hr
                   obtain ⟨b0, b1, b2, b3, b4⟩ := vl_cells hS.bv
                   obtain ⟨f0, f1, f2, f3, f4, f5, f6, f7, f8, f9⟩ := hS.at10
                   simp only at f0 f1 f2 f3 f4 f5 f6 f7 f8 f9
                   have d0 := hS.box.cell 0
                   simp at d0
                   go_simp
                   (try go_ints)
                   first
                     | ((with_reducible refine (HIO.out _).mono ?_); rintro e w' ⟨rfl, hb⟩; exact Done.mk hb)
                     | exact Done.same
                )
            show ∀ w', _ → _
            intro wz hz
            simp [Act.put]
            case hS => exact HS0.out
            have HS2 := Lib.hid hz
            clear hz HS0
            obtain ⟨b0, b1, b2, b3, b4⟩ := vl_cells HS2.out.bv
            have d0 := HS2.out.box.cell 0
            simp at d0
            go_wp2_with fail
            refine (HC2.out _ HS2.out.bel).mono ?_; rintro e w5 ⟨x5, rfl, hx5, hk5⟩
            have HK5 := Lib.hid ((Kp.of HS2.out.bel HW0.out.size).trans hk5)
            clear hk5 HC2 HS2 d0 b0 b1 b2 b3 b4
            generalize (frmH 2 (gthW (leastK ⟨vk, na, nb, nlo, nhi, ncls, ntext⟩) rs)) = r at *
            cases r with
            | none =>
              have hx5 : x5 = .tuple #[.slice none 0 0, .bool false] := hx5
              subst hx5
              go_wp2
              go_ret2
              exact ⟨_, rfl, by rw [HRES.out]; rfl, HK5.out⟩
            | some V =>
              obtain ⟨v5, rfl, ho5⟩ := hx5
              have HO5 := Lib.hid ho5
              clear ho5
              go_wp2
              go_ret2
              exact ⟨_, rfl, by rw [HRES.out]; exact ⟨_, rfl, HO5.out⟩, HK5.out⟩
          · have z9 : (vk == 9) = false := by rw [beq_eq_false_iff_ne]; exact k9
            have HRES : Hid (res = gthW (leastK ⟨vk, na, nb, nlo, nhi, ncls, ntext⟩) rs) := by
              unfold Hid; rw [HYES.out]
              cases gthW (leastK ⟨vk, na, nb, nlo, nhi, ncls, ntext⟩) rs with
              | none => rfl
              | some V => simp [capW, k2, k3, k8, k9]
            clear HYES HC1 HC2 HRN hh k2 k3 k8 k9
            go_enter Try.func25, Try.ntmps25
            go_upto_region 1 with (fail)
            generalize (w.alloc (.cells #[.slice (some ⟨ba, oa, none⟩) l.length c] 55)).alloc (.cells #[.int .i64 vk, .int .u8 ((vb.toNat : Nat) : Int), .string (bs vt), .int .i64 vp, .slice B ks.len cv] 27) = w1 at *
            refine wp_region_stable (S := (PaS w (some ⟨ba, oa, none⟩) l c ⟨vk, vb, vt, vp, ks⟩ B cv ba (oa + q * 10) ⟨vk, na, nb, nlo, nhi, ncls, ntext⟩)) (hSt := fun _ _ h hb => h.later hb) (plan := [[(4, none)], [(12, some 0)], [(13, some 1)], [(4, none)], [(3, none)], [(15, some 3), (16, some 4)], [(14, some 2), (17, some 5)], [(18, some 6)], [(5, none)], [(20, some 8)], [(4, none)], [(21, some 9), (22, some 10)], [(23, some 11)], [(7, none)], [(24, some 12), (25, some 13)], [(26, some 14)], [(19, some 7), (27, some 15)]]) (by kernel_rfl) (by kernel_rfl) (by kernel_rfl) ?hS ?_
            rotate_left
            iterate 17 first
              | (refine chain_skip (by rfl) (by rfl) ?_)
              | (apply chain_want (by rfl)
                 · intro act wx hS hr
                   simp at hr
                   obtain ⟨b0, b1, b2, b3, b4⟩ := vl_cells hS.bv
                   obtain ⟨f0, f1, f2, f3, f4, f5, f6, f7, f8, f9⟩ := hS.at10
                   simp only at f0 f1 f2 f3 f4 f5 f6 f7 f8 f9
                   have d0 := hS.box.cell 0
                   simp at d0
                   go_simp
                   (try go_ints)
                   first
                     | ((with_reducible refine (HIO.out _).mono ?_); rintro e w' ⟨rfl, hb⟩; exact Done.mk hb)
                     | exact Done.same
                )
            show ∀ w', _ → _
            intro wz hz
            simp [Act.put]
            case hS => exact HS0.out
            have HS2 := Lib.hid hz
            clear hz HS0
            obtain ⟨b0, b1, b2, b3, b4⟩ := vl_cells HS2.out.bv
            have d0 := HS2.out.box.cell 0
            simp at d0
            go_wp2_with fail
            refine (HCK.out _ HS2.out.bel).mono ?_; rintro e w5 ⟨x5, rfl, hx5, hk5⟩
            have HK5 := Lib.hid ((Kp.of HS2.out.bel HW0.out.size).trans hk5)
            clear hk5 HCK HS2 d0 b0 b1 b2 b3 b4
            generalize (gthW (leastK ⟨vk, na, nb, nlo, nhi, ncls, ntext⟩) rs) = r at *
            cases r with
            | none =>
              have hx5 : x5 = .tuple #[.slice none 0 0, .bool false] := hx5
              subst hx5
              go_wp2
              go_ret2
              exact ⟨_, rfl, by rw [HRES.out]; rfl, HK5.out⟩
            | some V =>
              obtain ⟨v5, rfl, ho5⟩ := hx5
              have HO5 := Lib.hid ho5
              clear ho5
              go_wp2
              go_ret2
              exact ⟨_, rfl, by rw [HRES.out]; exact ⟨_, rfl, HO5.out⟩, HK5.out⟩
  · rw [decide_eq_false hh] at HIO
    have HRES := Lib.hid (HNO.out hh)
    clear HNO HYES HCK HC1 HC2 HRN hh
    go_enter Try.func25, Try.ntmps25
    go_upto_region 1 with (fail)
    generalize (w.alloc (.cells #[.slice (some ⟨ba, oa, none⟩) l.length c] 55)).alloc (.cells #[.int .i64 vk, .int .u8 ((vb.toNat : Nat) : Int), .string (bs vt), .int .i64 vp, .slice B ks.len cv] 27) = w1 at *
    refine wp_region_stable (S := (PaS w (some ⟨ba, oa, none⟩) l c ⟨vk, vb, vt, vp, ks⟩ B cv ba (oa + q * 10) ⟨nk, na, nb, nlo, nhi, ncls, ntext⟩)) (hSt := fun _ _ h hb => h.later hb) (plan := [[(4, none)], [(12, some 0)], [(13, some 1)], [(4, none)], [(3, none)], [(15, some 3), (16, some 4)], [(14, some 2), (17, some 5)], [(18, some 6)], [(5, none)], [(20, some 8)], [(4, none)], [(21, some 9), (22, some 10)], [(23, some 11)], [(7, none)], [(24, some 12), (25, some 13)], [(26, some 14)], [(19, some 7), (27, some 15)]]) (by kernel_rfl) (by kernel_rfl) (by kernel_rfl) ?hS ?_
    rotate_left
    iterate 17 first
      | (refine chain_skip (by rfl) (by rfl) ?_)
      | (apply chain_want (by rfl)
         · intro act wx hS hr
           simp at hr
           obtain ⟨b0, b1, b2, b3, b4⟩ := vl_cells hS.bv
           obtain ⟨f0, f1, f2, f3, f4, f5, f6, f7, f8, f9⟩ := hS.at10
           simp only at f0 f1 f2 f3 f4 f5 f6 f7 f8 f9
           have d0 := hS.box.cell 0
           simp at d0
           go_simp
           (try go_ints)
           first
             | ((with_reducible refine (HIO.out _).mono ?_); rintro e w' ⟨rfl, hb⟩; exact Done.mk hb)
             | exact Done.same
        )
    show ∀ w', _ → _
    intro wz hz
    simp [Act.put]
    case hS => exact HS0.out
    have HS2 := Lib.hid hz
    clear hz HS0
    obtain ⟨b0, b1, b2, b3, b4⟩ := vl_cells HS2.out.bv
    have d0 := HS2.out.box.cell 0
    simp at d0
    go_wp2
    go_ret2
    exact ⟨_, rfl, by rw [HRES.out]; rfl, Kp.of HS2.out.bel HW0.out.size⟩
end Go.Proofs.Ytgdlbahfmddkaaa
/- What Write answers. -/
namespace Go.Proofs.Ytgdlbahfmddkaaa
open Go Go.RowKit
set_option linter.unusedVariables false
set_option linter.unusedSimpArgs false
set_option maxRecDepth 100000

theorem vpartw_any {w0 : World} {A : Option Addr} {l : List Nd} {c : Nat} (hF : Form l) (hc : l.length ≤ c) (hlen : l.length ≤ 536870912) (htx : ∀ n ∈ l, n.text.length ≤ 2000) (hrow : NRow w0 A l) : ∀ q, q < l.length → PartC w0 A l c q := fun q => by
  induction q using Nat.strongRecOn with
  | ind q ih => exact fun hq => part_step hF hc hlen htx hrow hq (fun p hp => ih p hp (by omega))
set_option maxHeartbeats 16000000 in
theorem write_c : WriteC := by
  intro l A c v u w hF hc hlen htx hcnt hrow hu
  obtain ⟨B, cv, hcv, rfl, hkr⟩ := hu
  have hpos := hF.1
  have HS0 := Lib.hid (WvS.new w A l c v B cv hrow hkr)
  have hlenw : ∀ V, wrD l v = some V → V.length ≤ 1073741824 := fun V hV => by
    have h1 := wrV_len htx _ _ _ hV
    have : (2000 + 2) * cntV v ≤ (2000 + 2) * 100000 := Nat.mul_le_mul_left _ hcnt
    omega
  have HLW := Lib.hid hlenw
  have CP : Hid (∀ w', WvS w A l c v B cv w' → Calls Try.prog 25 #[.agg #[.slice A l.length c], .slice none 0 0, .agg (vlC v B cv), .int .i64 (l.length : Int), .int .i64 ((l.length : Int) - 1)] w' (GotP w.heap.size [] w' (wrD l v))) := fun w' h => by
    have := vpartw_any (c := c) hF hc hlen htx hrow (l.length - 1) (by omega) l.length v B cv [] (.slice none 0 0) w' (by omega) (Nat.le_refl _) hcv hkr (by simp only [List.length_nil]; omega) h.bel (Own8.nil _ _)
    rwa [show ((l.length - 1 : Nat) : Int) = (l.length : Int) - 1 by omega] at this
  generalize wrD l v = r at *
  have hmin : -9223372036854775808 ≤ (l.length : Int) - 1 := by omega
  clear hrow hkr hF htx hlenw hcnt
  obtain ⟨vk, vb, vt, vp, ks⟩ := v
  rw [vlC_five] at *
  simp only at *
  go_enter Try.func11, Try.ntmps11
  go_upto_region 1 with (fail)
  generalize (w.alloc (.cells #[.slice A l.length c] 24)).alloc (.cells #[.int .i64 vk, .int .u8 ((vb.toNat : Nat) : Int), .string (bs vt), .int .i64 vp, .slice B ks.len cv] 27) = w1 at *
  obtain ⟨b0, b1, b2, b3, b4⟩ := vl_cells HS0.out.bv
  have d0 := HS0.out.box.cell 0
  simp at d0
  go_wp2_with fail
  refine (CP.out _ HS0.out).mono ?_; rintro e w2 ⟨x2, rfl, hx2, hk2⟩
  have HB2 := Lib.hid (HS0.out.bel.trans hk2.bel)
  clear hk2 CP HS0 b0 b1 b2 b3 b4 d0
  cases r with
  | none =>
    have hx2 : x2 = .tuple #[.slice none 0 0, .bool false] := hx2
    subst hx2
    go_wp2
    go_ret2
    exact ⟨_, rfl, ⟨_, rfl, IsW.nil _⟩, HB2.out⟩
  | some V =>
    obtain ⟨v2, rfl, ho2⟩ := hx2
    have HX : Hid (IsW V v2 w2) := own_isW ho2 (HLW.out V rfl)
    clear ho2
    go_wp2
    go_ret2
    exact ⟨_, rfl, ⟨_, rfl, HX.out⟩, HB2.out⟩
end Go.Proofs.Ytgdlbahfmddkaaa
