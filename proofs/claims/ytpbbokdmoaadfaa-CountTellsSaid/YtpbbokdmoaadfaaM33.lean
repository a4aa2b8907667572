/- Counting: of an Or, which of its values: what isn't an Or. Walked. -/
import Derived.Test.YtpbbokdmoaadfaaM32
namespace Go.Proofs.Ytpbbokdmoaadfaa
open Go Go.RowKit
set_option linter.unusedVariables false
set_option linter.unusedSimpArgs false
set_option maxRecDepth 100000
def PikP (m : Nat) (l : List Nd) (V : Wd) (EL : List Vl) (r : Nat) (w0 : World) (e : Ending) (w : World) : Prop := Rk m l V w0.heap.size [] w0 w /\
  ((∃ (x : VCl) (v : Vl), EL[r]? = some v /\ x.v = v /\ e = .returned (.tuple #[.agg x.cells, .int .i64 0, .bool true]) /\ VOk (fun b => w0.heap.size <= b) w x) \/ (EL.length <= r /\ e = .returned (.tuple #[.agg vcl0.cells, .int .i64 ((r - EL.length : Nat) : Int), .bool false])))
def PicC (A : Option Addr) (l : List Nd) (c m : Nat) (V : Wd) (i : Nat) : Prop := ∀ (rb : Nat) (u : Value) (W : Wd) (a b r : Nat) (w : World), Rdr rb A l c u W V m w -> W <+: V -> a <= b -> b <= W.length -> r <= 1 ->
  Calls Try.prog 48 #[.pointer (some ⟨rb, 0, none⟩), .int .i64 (i : Int), .int .i64 (a : Int), .int .i64 (b : Int), .int .i64 (r : Int)] w (PikP m l V (EN l i (sgW W a b)) r w)
theorem pik_num {l : List Nd} {i : Nat} {W : Wd} {a b r : Nat} (hF : Form l) (hi : i < l.length) (hab : a <= b) (hr : r <= 1) : (r < rowV l i W a b -> r < (EN l i (sgW W a b)).length) /\ (¬ r < rowV l i W a b -> (EN l i (sgW W a b)).length <= r /\ rowV l i W a b = (EN l i (sgW W a b)).length) := by
  have h1 : (EN l i (sgW W a b)).length = cV l i W a b := by rw [EN_length hF hi]; unfold cV; rw [if_pos hab]
  rw [rowV_cV, h1]
  constructor
  · intro h; omega
  · intro h; omega
theorem VOk.turn {p : Nat -> Prop} {w w' : World} {g : Nat} {x : VCl} (h : VOk (fun b => p b /\ b ≠ g) w x) (hs : w.heap.size <= w'.heap.size) (hk : ∀ b, b ≠ g -> w'.heap[b]? = w.heap[b]?) : VOk p w' x :=
  ⟨h.1, (h.2.blocks hs fun b hb _ => hk b hb.2).mono fun b _ hb => hb.1⟩
def put5c (w : World) (g : Nat) (c0 c1 c2 c3 c4 : Value) : World := ((((w.setCell ⟨g, 0, none⟩ c0).setCell ⟨g, 1, none⟩ c1).setCell ⟨g, 2, none⟩ c2).setCell ⟨g, 3, none⟩ c3).setCell ⟨g, 4, none⟩ c4
theorem put5c_size (w : World) (g : Nat) (c0 c1 c2 c3 c4 : Value) : (put5c w g c0 c1 c2 c3 c4).heap.size = w.heap.size := by unfold put5c; simp [World.setCell]
theorem put5c_other {w : World} {g : Nat} {c0 c1 c2 c3 c4 : Value} {b : Nat} (hb : b ≠ g) : (put5c w g c0 c1 c2 c3 c4).heap[b]? = w.heap[b]? := by
  unfold put5c
  rw [Below.heap_setCell _ _ _ _ hb, Below.heap_setCell _ _ _ _ hb, Below.heap_setCell _ _ _ _ hb, Below.heap_setCell _ _ _ _ hb, Below.heap_setCell _ _ _ _ hb]
theorem put5c_rk {m : Nat} {l : List Nd} {V : Wd} {B : Nat} {w0 w : World} {g : Nat} {z0 z1 z2 z3 z4 : Value} (h : Rk m l V B [] w0 w) (hk : Blk w g #[z0, z1, z2, z3, z4] 32) (hg : B <= g) (c0 c1 c2 c3 c4 : Value) : Rk m l V B [] w0 (put5c w g c0 c1 c2 c3 c4) /\ Blk (put5c w g c0 c1 c2 c3 c4) g #[c0, c1, c2, c3, c4] 32 := by
  unfold put5c
  have k0 := hk.setCell 0 c0
  have k1 := k0.setCell 1 c1
  have k2 := k1.setCell 2 c2
  have k3 := k2.setCell 3 c3
  have k4 := k3.setCell 4 c4
  exact ⟨((((h.setT hk (by decide) hg 0 c0).setT k0 (by decide) hg 1 c1).setT k1 (by decide) hg 2 c2).setT k2 (by decide) hg 3 c3).setT k3 (by decide) hg 4 c4, by simpa using k4⟩
set_option maxHeartbeats 16000000 in
theorem pick_other {l : List Nd} {c m ba oa : Nat} {V : Wd} {i : Nat} (hF : Form l) (hi : i < l.length) (hk5 : (atN l i).kind ≠ 5) (hn : V.length <= 900) (hE : EndsC (some ⟨ba, oa, none⟩) l c m V i) (hV : ValC (some ⟨ba, oa, none⟩) l c m V i) : PicC (some ⟨ba, oa, none⟩) l c m V i := by
  intro rb u W a b r w hr hW hab hb hrk
  have hWn : W.length <= 900 := by obtain ⟨t, rfl⟩ := hW; simp at hn; omega
  have hb1 := (Below.refl w.heap.size w).alloc (Nat.le_refl _) (.cells #[.int .i64 0, .int .u8 0, .string ⟨#[]⟩, .int .i64 0, .slice none 0 0] 32)
  have HR1 := Lib.hid (hr.later hb1)
  have HB1 := Lib.hid hb1
  have HZ1 := Lib.hid (Blk.new w #[.int .i64 0, .int .u8 0, .string ⟨#[]⟩, .int .i64 0, .slice none 0 0] 32)
  have HI := Lib.hid hi
  have HC := Lib.hid (fun (w' : World) (h : Rdr rb (some ⟨ba, oa, none⟩) l c u W V m w') => cways_any hE rb u W a b w' h hW hn (by omega) hb)
  have HVC := Lib.hid (fun (w' : World) (v : Vl) (h : Rdr rb (some ⟨ba, oa, none⟩) l c u W V m w') (hv : (EN l i (sgW W a b))[r]? = some v) => hV rb u W a b r v w' h hW hab hb hrk hv)
  have HNUM := Lib.hid (pik_num (W := W) (r := r) hF hi hab hrk)
  have hil : (i : Int) < (l.length : Int) := by omega
  have hi0 : ¬ (i : Int) < 0 := by omega
  have hkz : ((atN l i).kind != 5) = true := by simpa using hk5
  have hrow2 : rowV l i W a b <= 2 := rowV_le
  have hrz : (r : Int) <= 1 := by omega
  clear hr hW hb1 hE hV hk5 hF hi
  generalize rowV l i W a b = x at *
  generalize EN l i (sgW W a b) = EL at *
  go_enter Try.func48, Try.ntmps48
  go_upto_region 1 with (fail)
  generalize w.alloc (.cells #[.int .i64 0, .int .u8 0, .string ⟨#[]⟩, .int .i64 0, .slice none 0 0] 32) = w1 at *
  obtain ⟨b8, o8, hA8, hg8⟩ := HR1.out.rd.row.at10 HI.out
  cases hA8
  unfold At10 at hg8
  obtain ⟨g0, -⟩ := hg8
  have k0 := HR1.out.rd.blk.cell 0
  simp at k0
  generalize (atN l i).kind = kk at *
  go_wp2_with fail
  refine (HC.out w1 HR1.out).mono ?_; rintro e w2 ⟨rfl, hk2⟩
  have HR2 := Lib.hid (HR1.out.rk hk2)
  have HZ2 := Lib.hid ((hk2.kc ⟨_, HR1.out.kept⟩).block _ HZ1.out.lt _ _ HZ1.out)
  have HK2 := Lib.hid ((Rk.of_below (m := m) (l := l) (V := V) HB1.out).call HB1.out.size hk2)
  have HL2 : Hid (w.heap.size < w2.heap.size) := Nat.lt_of_lt_of_le HZ1.out.lt hk2.size
  clear hk2 HC HZ1 HB1 HR1 g0 k0
  by_cases hrx : r < x
  · have hv := List.getElem?_eq_getElem (HNUM.out.1 hrx)
    have hge : ¬ (r : Int) >= (x : Int) := by omega
    obtain ⟨v, hvv⟩ : ∃ v, EL[r]'(HNUM.out.1 hrx) = v := ⟨_, rfl⟩
    rw [hvv] at hv
    have HVR := Lib.hid hv
    clear hv hvv hrx
    go_wp2_with fail
    refine (HVC.out w2 v HR2.out HVR.out).mono ?_; rintro e w5 ⟨x5, rfl, hx5, hok5, hk5⟩
    have HZ5 := Lib.hid ((hk5.kc ⟨_, HR2.out.kept⟩).block _ HZ2.out.lt _ _ HZ2.out)
    have HK5 := Lib.hid (HK2.out.call HK2.out.size hk5)
    have HOK := Lib.hid hok5
    have HX5 := Lib.hid hx5
    clear hx5 hok5 hk5 HVC HR2 HZ2 HK2
    obtain ⟨⟨xk, xb, xt, xp, xs⟩, xB, xc⟩ := x5
    simp only [VCl.cells, vlC]
    have z0 := HZ5.out.cell 0
    have z1 := HZ5.out.cell 1
    have z2 := HZ5.out.cell 2
    have z3 := HZ5.out.cell 3
    have z4 := HZ5.out.cell 4
    simp at z0 z1 z2 z3 z4
    have f0 := HZ5.out.frozen 0
    have f1 := HZ5.out.frozen 1
    have f2 := HZ5.out.frozen 2
    have f3 := HZ5.out.frozen 3
    have f4 := HZ5.out.frozen 4
    have HPP : Hid (PikP m l V EL r w (.returned (.tuple #[.agg #[.int .i64 xk, .int .u8 ((xb.toNat : Nat) : Int), .string (bs xt), .int .i64 xp, .slice xB xs.len xc], .int .i64 0, .bool true])) (put5c w5 w.heap.size (.int .i64 xk) (.int .u8 ((xb.toNat : Nat) : Int)) (.string (bs xt)) (.int .i64 xp) (.slice xB xs.len xc))) := by
      obtain ⟨h1, h2⟩ := put5c_rk HK5.out HZ5.out (Nat.le_refl _) (.int .i64 xk) (.int .u8 ((xb.toNat : Nat) : Int)) (.string (bs xt)) (.int .i64 xp) (.slice xB xs.len xc)
      refine ⟨h1, .inl ⟨⟨⟨xk, xb, xt, xp, xs⟩, xB, xc⟩, v, HVR.out, HX5.out, rfl, ?_⟩⟩
      refine VOk.turn (g := w.heap.size) ⟨HOK.out.1, HOK.out.2.mono fun b _ hb => ⟨by have := HL2.out; omega, by have := HL2.out; omega⟩⟩ (by rw [put5c_size]; exact Nat.le_refl _) fun b hb => put5c_other hb
    have HP2 := HPP.out
    unfold put5c at HP2
    have HP3 := Lib.hid HP2
    clear HP2 HPP HK5 HZ5 HOK HX5 HL2
    go_wp2
    refine bodyPost_ret (v := .tuple #[.agg #[.int .i64 xk, .int .u8 ((xb.toNat : Nat) : Int), .string (bs xt), .int .i64 xp, .slice xB xs.len xc], .int .i64 0, .bool true]) ?_ rfl ?_
    · simp [results, Try.results48, go_sem]
      go_simp
      try rfl
    · exact HP3.out
  · obtain ⟨h1, h2⟩ := HNUM.out.2 hrx
    have hge : (r : Int) >= (x : Int) := by omega
    obtain ⟨d, hd⟩ : ∃ d, r - x = d := ⟨_, rfl⟩
    have hdz : (r : Int) - (x : Int) = (d : Int) := by omega
    have z0 := HZ2.out.cell 0
    have z1 := HZ2.out.cell 1
    have z2 := HZ2.out.cell 2
    have z3 := HZ2.out.cell 3
    have z4 := HZ2.out.cell 4
    simp at z0 z1 z2 z3 z4
    have f0 := HZ2.out.frozen 0
    have f1 := HZ2.out.frozen 1
    have f2 := HZ2.out.frozen 2
    have f3 := HZ2.out.frozen 3
    have f4 := HZ2.out.frozen 4
    have HPP : Hid (PikP m l V EL r w (.returned (.tuple #[.agg #[.int .i64 0, .int .u8 0, .string ⟨#[]⟩, .int .i64 0, .slice none 0 0], .int .i64 (d : Int), .bool false])) (put5c w2 w.heap.size (.int .i64 0) (.int .u8 0) (.string ⟨#[]⟩) (.int .i64 0) (.slice none 0 0))) := by
      obtain ⟨k1, k2⟩ := put5c_rk HK2.out HZ2.out (Nat.le_refl _) (.int .i64 0) (.int .u8 0) (.string ⟨#[]⟩) (.int .i64 0) (.slice none 0 0)
      exact ⟨k1, .inr ⟨h1, by rw [<- h2, hd]; rfl⟩⟩
    have HP2 := HPP.out
    unfold put5c at HP2
    have HP3 := Lib.hid HP2
    clear HP2 HPP HK2 HZ2 HL2 HVC HR2 h1 h2 hd hrx
    go_wp2
    refine bodyPost_ret (v := .tuple #[.agg #[.int .i64 0, .int .u8 0, .string ⟨#[]⟩, .int .i64 0, .slice none 0 0], .int .i64 (d : Int), .bool false]) ?_ rfl ?_
    · simp [results, Try.results48, go_sem]
      go_simp
      try rfl
    · exact HP3.out
structure PkqS (m : Nat) (A : Option Addr) (l : List Nd) (c : Nat) (u : Value) (W V : Wd) (rb : Nat) (w0 w : World) : Prop where
  rk : Rk m l V w0.heap.size [] w0 w
  rd : Rdr rb A l c u W V m w
  z : Blk w w0.heap.size #[.int .i64 0, .int .u8 0, .string ⟨#[]⟩, .int .i64 0, .slice none 0 0] 32
theorem PkqS.later {m : Nat} {A : Option Addr} {l : List Nd} {c : Nat} {u : Value} {W V : Wd} {rb : Nat} {w0 w w' : World} (h : PkqS m A l c u W V rb w0 w) (hb : Below w.heap.size w w') : PkqS m A l c u W V rb w0 w' := ⟨h.rk.later h.rk.size hb, h.rd.later hb, h.z.later hb⟩
theorem PkqS.call {m : Nat} {A : Option Addr} {l : List Nd} {c : Nat} {u : Value} {W V : Wd} {rb : Nat} {w0 w w' : World} (h : PkqS m A l c u W V rb w0 w) (hk : Rk m l V w.heap.size [] w w') : PkqS m A l c u W V rb w0 w' := ⟨h.rk.call h.rk.size hk, h.rd.rk hk, (hk.kc ⟨_, h.rd.kept⟩).block _ h.z.lt _ _ h.z⟩
def PkqL (m : Nat) (A : Option Addr) (l : List Nd) (c : Nat) (u : Value) (W V : Wd) (rb : Nat) (EA EB : List Vl) (r : Nat) (w0 : World) (x y : Value) (w : World) : Prop :=
  ∃ q rq : Nat, q <= 2 /\ y = .int .i64 (q : Int) /\ x = .int .i64 (rq : Int) /\ rq + (if q = 0 then 0 else if q = 1 then EA.length else EA.length + EB.length) = r /\ PkqS m A l c u W V rb w0 w
theorem one_kid {p : Nat -> Prop} {w5 w7 : World} {x : VCl} {g : Nat} {k : Int} {q : Int} (hb : Below w5.heap.size w5 w7) (hx : VOk p w5 x) (hg : Blk w7 g x.cells 32) (hp : p g) : VOk p w7 ⟨⟨k, 0, [], q, Vs.of [x.v]⟩, some ⟨g, 0, none⟩, 1⟩ := by
  refine ⟨by show (Vs.of [x.v]).len <= 1; rw [Vs.of_len]; exact Nat.le_refl _, ?_⟩
  exact VRp.of (l := [x]) hg.lt hp (fun y hy => by
    rw [List.mem_singleton.1 hy]; exact ⟨hx.1, hx.2.later hb⟩) fun k hk j hj => by
    have hk : k < 1 := hk
    obtain rfl : k = 0 := by omega
    rw [hg.cell, show 0 + (0 + 0) * 5 + j = j by omega]; rfl
structure PkxS (m : Nat) (A : Option Addr) (l : List Nd) (c : Nat) (u : Value) (W V : Wd) (rb : Nat) (w0 : World) (x : VCl) (w5 : World) (bx : Nat) (w : World) : Prop where
  i : PkqS m A l c u W V rb w0 w
  bx : Blk w bx x.cells 32
  bel : Below w5.heap.size w5 w
theorem PkxS.later {m : Nat} {A : Option Addr} {l : List Nd} {c : Nat} {u : Value} {W V : Wd} {rb : Nat} {w0 : World} {x : VCl} {w5 : World} {bx : Nat} {w w' : World} (h : PkxS m A l c u W V rb w0 x w5 bx w) (hb : Below w.heap.size w w') : PkxS m A l c u W V rb w0 x w5 bx w' := ⟨h.i.later hb, h.bx.later hb, h.bel.trans (hb.mono h.bel.size)⟩
def KidR (x : VCl) (B : Nat) (v : Value) (w : World) : Prop := ∃ g, v = .slice (some ⟨g, 0, none⟩) 1 1 /\ Blk w g x.cells 32 /\ B <= g
theorem KidR.later (x : VCl) (B : Nat) (v : Value) (w w' : World) (h : KidR x B v w) (hb : Below w.heap.size w w') : KidR x B v w' := by
  obtain ⟨g, h1, h2, h3⟩ := h
  exact ⟨g, h1, h2.later hb, h3⟩
def KidV (x : VCl) (B : Nat) (k q : Int) (v : Value) (w : World) : Prop := ∃ g, v = .agg #[.int .i64 k, .int .u8 0, .string ⟨#[]⟩, .int .i64 q, .slice (some ⟨g, 0, none⟩) 1 1] /\ Blk w g x.cells 32 /\ B <= g
theorem KidV.later (x : VCl) (B : Nat) (k q : Int) (v : Value) (w w' : World) (h : KidV x B k q v w) (hb : Below w.heap.size w w') : KidV x B k q v w' := by
  obtain ⟨g, h1, h2, h3⟩ := h
  exact ⟨g, h1, h2.later hb, h3⟩
set_option maxHeartbeats 16000000 in
theorem pick_or {l : List Nd} {c m ba oa : Nat} {V : Wd} {i : Nat} (hF : Form l) (hi : i < l.length) (hk5 : (atN l i).kind = 5) (hn : V.length <= 900) (hA : PicC (some ⟨ba, oa, none⟩) l c m V (atN l i).a.toNat) (hB : PicC (some ⟨ba, oa, none⟩) l c m V (atN l i).b.toNat) : PicC (some ⟨ba, oa, none⟩) l c m V i := by
  intro rb u W a b r w hr hW hab hb hrk
  have hEN := EN_k5 (u := sgW W a b) hF hi hk5
  have hab2 : (((atN l i).a.toNat : Nat) : Int) = (atN l i).a /\ (((atN l i).b.toNat : Nat) : Int) = (atN l i).b := by
    have hcs := (hF.2.1 i hi).cs rfl
    cases hcs with
    | leaf h1 hf => unfold leafK at h1; omega
    | one h1 hi0 ha hb h7 hr hcl hf => omega
    | two h1 hi0 hb ha hf0 hl hcl hf => omega
  obtain ⟨na, hna⟩ : ∃ na, (atN l i).a.toNat = na := ⟨_, rfl⟩
  obtain ⟨nb, hnb⟩ : ∃ nb, (atN l i).b.toNat = nb := ⟨_, rfl⟩
  obtain ⟨haz, hbz⟩ := hab2
  rw [hna] at haz hA hEN
  rw [hnb] at hbz hB hEN
  have hb1 := (Below.refl w.heap.size w).alloc (Nat.le_refl _) (.cells #[.int .i64 0, .int .u8 0, .string ⟨#[]⟩, .int .i64 0, .slice none 0 0] 32)
  have HS1 : Hid (PkqS m (some ⟨ba, oa, none⟩) l c u W V rb w (w.alloc (.cells #[.int .i64 0, .int .u8 0, .string ⟨#[]⟩, .int .i64 0, .slice none 0 0] 32))) := ⟨.of_below hb1, hr.later hb1, Blk.new w _ _⟩
  have HI := Lib.hid hi
  have HCA := Lib.hid (fun (w' : World) (rq : Nat) (h1 : rq <= 1) (h : Rdr rb (some ⟨ba, oa, none⟩) l c u W V m w') => hA rb u W a b rq w' h hW hab hb h1)
  have HCB := Lib.hid (fun (w' : World) (rq : Nat) (h1 : rq <= 1) (h : Rdr rb (some ⟨ba, oa, none⟩) l c u W V m w') => hB rb u W a b rq w' h hW hab hb h1)
  have HEN := Lib.hid hEN
  have HAT : Hid (∀ w', NRow w' (some ⟨ba, oa, none⟩) l -> At10 w' ba (oa + i * 10) (atN l i)) := fun w' h => h.at hi rfl
  unfold At10 at HAT
  have hil : (i : Int) < (l.length : Int) := by omega
  have hi0 : ¬ (i : Int) < 0 := by omega
  have hkz : ((atN l i).kind != 5) = false := by simpa using hk5
  clear hr hW hb1 hA hB hk5 hF hi hEN hna hnb
  generalize (atN l i).kind = kk at *
  generalize (atN l i).a = ia at *
  generalize (atN l i).b = ib at *
  subst haz
  subst hbz
  generalize EN l na (sgW W a b) = EA at *
  generalize EN l nb (sgW W a b) = EB at *
  go_enter Try.func48, Try.ntmps48
  go_upto_region 1 with (fail)
  generalize w.alloc (.cells #[.int .i64 0, .int .u8 0, .string ⟨#[]⟩, .int .i64 0, .slice none 0 0] 32) = w1 at *
  obtain ⟨g0, -⟩ := HAT.out _ HS1.out.rd.rd.row
  have k0 := HS1.out.rd.rd.blk.cell 0
  simp at k0
  go_upto_region 7 with (fail)
  clear g0 k0
  refine wp_region_stable (S := (PkqS m (some ⟨ba, oa, none⟩) l c u W V rb w)) (hSt := fun _ _ h hb => h.later hb) (plan := [[(13, none)], [(49, some 0)], [(50, some 1)], [(51, some 2)], [(13, none)], [(53, some 4)], [(54, some 5)], [(55, some 6)], [(52, some 3), (56, some 7)], []]) (by kernel_rfl) (by kernel_rfl) (by kernel_rfl) ?hS ?_
  rotate_left
  iterate 10 first
    | (refine chain_skip (by rfl) (by rfl) ?_)
    | (apply chain_want (by rfl)
       · intro act wx hS hr
         simp at hr
         obtain ⟨g0, g1, g2, -⟩ := HAT.out _ hS.rd.rd.row
         go_simp
         (try go_ints)
         first
           | exact Done.same
      )
  show ∀ w', _ -> _
  intro wz hz
  simp [Act.put]
  case hS => exact HS1.out
  have HZ := Lib.hid hz
  clear hz HS1
  go_wp2
  go_loopw [4, 58] (PkqL m (some ⟨ba, oa, none⟩) l c u W V rb EA EB r w) (fun _ y _ => 3 - (intOf y).toNat)
  case atStart => exact ⟨0, r, by omega, rfl, rfl, rfl, HZ.out⟩
  case round =>
    obtain ⟨q, rq, hq, rfl, rfl, hsum, hs⟩ := hrel
    have HSW := Lib.hid hs
    clear hs
    have hq3 : q = 0 \/ q = 1 \/ q = 2 := by omega
    rcases hq3 with rfl | rfl | rfl
    · rw [if_pos rfl] at hsum
      have hix : ∀ w, (Instr.index 105 (.agg #[.int .i64 (na : Int), .int .i64 (nb : Int)]) (.int .i64 0)).run Try.prog w = .ok (.int .i64 (na : Int)) w := fun w => by kernel_rfl
      have HCC := Lib.hid (HCA.out wr rq (by omega) HSW.out.rd)
      go_wp2_with fail
      refine HCC.out.mono ?_; rintro e w5 ⟨hk5, ⟨x5, v, hv, hxv, rfl, hok⟩ | ⟨hle, rfl⟩⟩
      · have HWK : Hid (wr.heap.size <= w5.heap.size) := hk5.size
        have HNV : Hid ((EN l i (sgW W a b))[r]? = some ⟨5, 0, [], 0, Vs.of [v]⟩) := by
          unfold Hid; rw [HEN.out, List.getElem?_append_left (by rw [List.length_map]; have := (List.getElem?_eq_some_iff.1 hv).1; omega), List.getElem?_map, show r = rq by omega, hv]; rfl
        clear hv HCC hix
        have HXV := Lib.hid hxv
        have HOK := Lib.hid hok
        have HS5 := Lib.hid (HSW.out.call hk5)
        clear hk5 hxv hok
        obtain ⟨⟨xk, xb, xt, xp, xs⟩, xB, xc⟩ := x5
        simp only [VCl.cells, vlC]
        have hb6 := (Below.refl w5.heap.size w5).alloc (Nat.le_refl _) (.cells #[.int .i64 xk, .int .u8 ((xb.toNat : Nat) : Int), .string (bs xt), .int .i64 xp, .slice xB xs.len xc] 32)
        have HS6 : Hid (PkxS m (some ⟨ba, oa, none⟩) l c u W V rb w ⟨⟨xk, xb, xt, xp, xs⟩, xB, xc⟩ w5 w5.heap.size (w5.alloc (.cells #[.int .i64 xk, .int .u8 ((xb.toNat : Nat) : Int), .string (bs xt), .int .i64 xp, .slice xB xs.len xc] 32))) := ⟨HS5.out.later hb6, Blk.new w5 _ _, hb6⟩
        have HW5 : Hid (w.heap.size <= wr.heap.size /\ wr.heap.size <= w5.heap.size /\ w.heap.size < wr.heap.size) := ⟨HSW.out.rk.size, HWK.out, HSW.out.z.lt⟩
        clear hb6 HS5 HSW
        go_upto_region 12 with (fail)
        generalize w5.alloc (.cells #[.int .i64 xk, .int .u8 ((xb.toNat : Nat) : Int), .string (bs xt), .int .i64 xp, .slice xB xs.len xc] 32) = w6 at HS6 ⊢
        refine wp_region_stable_tail 4 (S := (PkxS m (some ⟨ba, oa, none⟩) l c u W V rb w ⟨⟨xk, xb, xt, xp, xs⟩, xB, xc⟩ w5 w5.heap.size)) (hSt := fun _ _ h hb => h.later hb) (plan := [[(15, none)], [(17, none)], [(74, some 1)], [(73, some 0), (75, some 2)]]) rfl rfl (by kernel_rfl) (by kernel_rfl) (by kernel_rfl) (by kernel_rfl) ?hS ?_
        rotate_left
        iterate 2 first
          | (refine chain_skip (by rfl) (by rfl) ?_)
          | (apply chain_want (by rfl)
             · intro act wx hS hr
               simp at hr
               have x0 := hS.bx.cell 0
               have x1 := hS.bx.cell 1
               have x2 := hS.bx.cell 2
               have x3 := hS.bx.cell 3
               have x4 := hS.bx.cell 4
               simp [VCl.cells, vlC] at x0 x1 x2 x3 x4
               go_simp
               (try go_ints)
               first
                 | exact Done.same (v := .agg #[.int .i64 xk, .int .u8 ((xb.toNat : Nat) : Int), .string (bs xt), .int .i64 xp, .slice xB xs.len xc])
                 | exact Done.same
            )
        (refine chain_rel (KidR ⟨⟨xk, xb, xt, xp, xs⟩, xB, xc⟩ w5.heap.size) (KidR.later ⟨⟨xk, xb, xt, xp, xs⟩, xB, xc⟩ w5.heap.size) (by rfl) ?_ ?_
         · intro act wx hS hr
           simp at hr
           have x0 := hS.bx.cell 0
           have x1 := hS.bx.cell 1
           have x2 := hS.bx.cell 2
           have x3 := hS.bx.cell 3
           have x4 := hS.bx.cell 4
           simp [VCl.cells, vlC] at x0 x1 x2 x3 x4
           all_goals go_simp
           exact Done.rel ((Below.refl _ _).alloc (Nat.le_refl _) _) ⟨_, rfl, Blk.new _ _ _, hS.bel.size⟩
        )
        (refine chain_rel (KidV ⟨⟨xk, xb, xt, xp, xs⟩, xB, xc⟩ w5.heap.size 5 0) (KidV.later ⟨⟨xk, xb, xt, xp, xs⟩, xB, xc⟩ w5.heap.size 5 0) (by rfl) ?_ ?_
         · intro act wx hS hr
           simp at hr
           have x0 := hS.bx.cell 0
           have x1 := hS.bx.cell 1
           have x2 := hS.bx.cell 2
           have x3 := hS.bx.cell 3
           have x4 := hS.bx.cell 4
           simp [VCl.cells, vlC] at x0 x1 x2 x3 x4
           obtain ⟨hr1, v, hr2, g, rfl, hk, hg⟩ := hr
           all_goals go_simp
           try go_simp; (try simp only [hr1, hr2, Option.getD_some]); (try go_simp); exact Done.rel (Below.refl _ _) ⟨g, rfl, hk, hg⟩
        )
        show ∀ w', _ -> _
        intro w8 hw8
        simp [Act.put]
        case hS => exact HS6.out
        intro v2 _ v3 hv3
        obtain ⟨g7, rfl, hk7, hg7⟩ := hv3
        have HS8 := Lib.hid hw8
        clear hw8
        have HPP : Hid (PikP m l V (EN l i (sgW W a b)) r w (.returned (.tuple #[.agg #[.int .i64 5, .int .u8 0, .string ⟨#[]⟩, .int .i64 0, .slice (some ⟨g7, 0, none⟩) 1 1], .int .i64 0, .bool true])) (put5c w8 w.heap.size (.int .i64 5) (.int .u8 0) (.string ⟨#[]⟩) (.int .i64 0) (.slice (some ⟨g7, 0, none⟩) 1 1))) := by
          obtain ⟨k1, k2⟩ := put5c_rk HS8.out.i.rk HS8.out.i.z (Nat.le_refl _) (.int .i64 5) (.int .u8 0) (.string ⟨#[]⟩) (.int .i64 0) (.slice (some ⟨g7, 0, none⟩) 1 1)
          have h5 := HW5.out
          have hok1 := one_kid (k := 5) (q := 0) (p := fun b => w.heap.size <= b /\ b ≠ w.heap.size) HS8.out.bel ⟨HOK.out.1, HOK.out.2.mono fun b _ hb => ⟨by omega, by omega⟩⟩ hk7 ⟨by omega, by omega⟩
          exact ⟨k1, .inl ⟨_, _, HNV.out, by rw [<- HXV.out], rfl, VOk.turn hok1 (by rw [put5c_size]; exact Nat.le_refl _) fun b hb => put5c_other hb⟩⟩
        have z0 := HS8.out.i.z.cell 0
        have z1 := HS8.out.i.z.cell 1
        have z2 := HS8.out.i.z.cell 2
        have z3 := HS8.out.i.z.cell 3
        have z4 := HS8.out.i.z.cell 4
        simp at z0 z1 z2 z3 z4
        have f0 := HS8.out.i.z.frozen 0
        have f1 := HS8.out.i.z.frozen 1
        have f2 := HS8.out.i.z.frozen 2
        have f3 := HS8.out.i.z.frozen 3
        have f4 := HS8.out.i.z.frozen 4
        have HP2 := HPP.out
        unfold put5c at HP2
        have HP3 := Lib.hid HP2
        clear HP2 HPP HOK HXV HS6 HS8 HW5 HNV hk7 hg7
        go_wp2
        refine bodyPost_ret (v := .tuple #[.agg #[.int .i64 5, .int .u8 0, .string ⟨#[]⟩, .int .i64 0, .slice (some ⟨g7, 0, none⟩) 1 1], .int .i64 0, .bool true]) ?_ rfl ?_
        · simp [results, Try.results48, go_sem]
          go_simp
          try rfl
        · exact HP3.out
      ·
        have HS5 := Lib.hid (HSW.out.call hk5)
        have hz9 : vcl0.cells = #[.int .i64 0, .int .u8 0, .string ⟨#[]⟩, .int .i64 0, .slice none 0 0] := rfl
        rw [hz9]
        have HS6 := Lib.hid (HS5.out.later ((Below.refl _ _).alloc (Nat.le_refl _) (.cells #[.int .i64 0, .int .u8 0, .string ⟨#[]⟩, .int .i64 0, .slice none 0 0] 32)))
        clear hz9 hk5 HS5 HSW HCC hix
        go_wp2
        go_roundw
        case rel => exact ⟨1, rq - EA.length, by omega, by go_num, rfl, by simp; omega, HS6.out⟩
        case measure => simp [intOf]
    · rw [if_neg (by decide), if_pos rfl] at hsum
      have hix : ∀ w, (Instr.index 105 (.agg #[.int .i64 (na : Int), .int .i64 (nb : Int)]) (.int .i64 1)).run Try.prog w = .ok (.int .i64 (nb : Int)) w := fun w => by kernel_rfl
      have HCC := Lib.hid (HCB.out wr rq (by omega) HSW.out.rd)
      go_wp2_with fail
      refine HCC.out.mono ?_; rintro e w5 ⟨hk5, ⟨x5, v, hv, hxv, rfl, hok⟩ | ⟨hle, rfl⟩⟩
      · have HWK : Hid (wr.heap.size <= w5.heap.size) := hk5.size
        have HNV : Hid ((EN l i (sgW W a b))[r]? = some ⟨5, 0, [], 1, Vs.of [v]⟩) := by
          unfold Hid; rw [HEN.out, List.getElem?_append_right (by rw [List.length_map]; omega), List.length_map, List.getElem?_map, show r - EA.length = rq by omega, hv]; rfl
        clear hv HCC hix
        have HXV := Lib.hid hxv
        have HOK := Lib.hid hok
        have HS5 := Lib.hid (HSW.out.call hk5)
        clear hk5 hxv hok
        obtain ⟨⟨xk, xb, xt, xp, xs⟩, xB, xc⟩ := x5
        simp only [VCl.cells, vlC]
        have hb6 := (Below.refl w5.heap.size w5).alloc (Nat.le_refl _) (.cells #[.int .i64 xk, .int .u8 ((xb.toNat : Nat) : Int), .string (bs xt), .int .i64 xp, .slice xB xs.len xc] 32)
        have HS6 : Hid (PkxS m (some ⟨ba, oa, none⟩) l c u W V rb w ⟨⟨xk, xb, xt, xp, xs⟩, xB, xc⟩ w5 w5.heap.size (w5.alloc (.cells #[.int .i64 xk, .int .u8 ((xb.toNat : Nat) : Int), .string (bs xt), .int .i64 xp, .slice xB xs.len xc] 32))) := ⟨HS5.out.later hb6, Blk.new w5 _ _, hb6⟩
        have HW5 : Hid (w.heap.size <= wr.heap.size /\ wr.heap.size <= w5.heap.size /\ w.heap.size < wr.heap.size) := ⟨HSW.out.rk.size, HWK.out, HSW.out.z.lt⟩
        clear hb6 HS5 HSW
        go_upto_region 12 with (fail)
        generalize w5.alloc (.cells #[.int .i64 xk, .int .u8 ((xb.toNat : Nat) : Int), .string (bs xt), .int .i64 xp, .slice xB xs.len xc] 32) = w6 at HS6 ⊢
        refine wp_region_stable_tail 4 (S := (PkxS m (some ⟨ba, oa, none⟩) l c u W V rb w ⟨⟨xk, xb, xt, xp, xs⟩, xB, xc⟩ w5 w5.heap.size)) (hSt := fun _ _ h hb => h.later hb) (plan := [[(15, none)], [(17, none)], [(74, some 1)], [(73, some 0), (75, some 2)]]) rfl rfl (by kernel_rfl) (by kernel_rfl) (by kernel_rfl) (by kernel_rfl) ?hS ?_
        rotate_left
        iterate 2 first
          | (refine chain_skip (by rfl) (by rfl) ?_)
          | (apply chain_want (by rfl)
             · intro act wx hS hr
               simp at hr
               have x0 := hS.bx.cell 0
               have x1 := hS.bx.cell 1
               have x2 := hS.bx.cell 2
               have x3 := hS.bx.cell 3
               have x4 := hS.bx.cell 4
               simp [VCl.cells, vlC] at x0 x1 x2 x3 x4
               go_simp
               (try go_ints)
               first
                 | exact Done.same (v := .agg #[.int .i64 xk, .int .u8 ((xb.toNat : Nat) : Int), .string (bs xt), .int .i64 xp, .slice xB xs.len xc])
                 | exact Done.same
            )
        (refine chain_rel (KidR ⟨⟨xk, xb, xt, xp, xs⟩, xB, xc⟩ w5.heap.size) (KidR.later ⟨⟨xk, xb, xt, xp, xs⟩, xB, xc⟩ w5.heap.size) (by rfl) ?_ ?_
         · intro act wx hS hr
           simp at hr
           have x0 := hS.bx.cell 0
           have x1 := hS.bx.cell 1
           have x2 := hS.bx.cell 2
           have x3 := hS.bx.cell 3
           have x4 := hS.bx.cell 4
           simp [VCl.cells, vlC] at x0 x1 x2 x3 x4
           all_goals go_simp
           exact Done.rel ((Below.refl _ _).alloc (Nat.le_refl _) _) ⟨_, rfl, Blk.new _ _ _, hS.bel.size⟩
        )
        (refine chain_rel (KidV ⟨⟨xk, xb, xt, xp, xs⟩, xB, xc⟩ w5.heap.size 5 1) (KidV.later ⟨⟨xk, xb, xt, xp, xs⟩, xB, xc⟩ w5.heap.size 5 1) (by rfl) ?_ ?_
         · intro act wx hS hr
           simp at hr
           have x0 := hS.bx.cell 0
           have x1 := hS.bx.cell 1
           have x2 := hS.bx.cell 2
           have x3 := hS.bx.cell 3
           have x4 := hS.bx.cell 4
           simp [VCl.cells, vlC] at x0 x1 x2 x3 x4
           obtain ⟨hr1, v, hr2, g, rfl, hk, hg⟩ := hr
           all_goals go_simp
           try go_simp; (try simp only [hr1, hr2, Option.getD_some]); (try go_simp); exact Done.rel (Below.refl _ _) ⟨g, rfl, hk, hg⟩
        )
        show ∀ w', _ -> _
        intro w8 hw8
        simp [Act.put]
        case hS => exact HS6.out
        intro v2 _ v3 hv3
        obtain ⟨g7, rfl, hk7, hg7⟩ := hv3
        have HS8 := Lib.hid hw8
        clear hw8
        have HPP : Hid (PikP m l V (EN l i (sgW W a b)) r w (.returned (.tuple #[.agg #[.int .i64 5, .int .u8 0, .string ⟨#[]⟩, .int .i64 1, .slice (some ⟨g7, 0, none⟩) 1 1], .int .i64 0, .bool true])) (put5c w8 w.heap.size (.int .i64 5) (.int .u8 0) (.string ⟨#[]⟩) (.int .i64 1) (.slice (some ⟨g7, 0, none⟩) 1 1))) := by
          obtain ⟨k1, k2⟩ := put5c_rk HS8.out.i.rk HS8.out.i.z (Nat.le_refl _) (.int .i64 5) (.int .u8 0) (.string ⟨#[]⟩) (.int .i64 1) (.slice (some ⟨g7, 0, none⟩) 1 1)
          have h5 := HW5.out
          have hok1 := one_kid (k := 5) (q := 1) (p := fun b => w.heap.size <= b /\ b ≠ w.heap.size) HS8.out.bel ⟨HOK.out.1, HOK.out.2.mono fun b _ hb => ⟨by omega, by omega⟩⟩ hk7 ⟨by omega, by omega⟩
          exact ⟨k1, .inl ⟨_, _, HNV.out, by rw [<- HXV.out], rfl, VOk.turn hok1 (by rw [put5c_size]; exact Nat.le_refl _) fun b hb => put5c_other hb⟩⟩
        have z0 := HS8.out.i.z.cell 0
        have z1 := HS8.out.i.z.cell 1
        have z2 := HS8.out.i.z.cell 2
        have z3 := HS8.out.i.z.cell 3
        have z4 := HS8.out.i.z.cell 4
        simp at z0 z1 z2 z3 z4
        have f0 := HS8.out.i.z.frozen 0
        have f1 := HS8.out.i.z.frozen 1
        have f2 := HS8.out.i.z.frozen 2
        have f3 := HS8.out.i.z.frozen 3
        have f4 := HS8.out.i.z.frozen 4
        have HP2 := HPP.out
        unfold put5c at HP2
        have HP3 := Lib.hid HP2
        clear HP2 HPP HOK HXV HS6 HS8 HW5 HNV hk7 hg7
        go_wp2
        refine bodyPost_ret (v := .tuple #[.agg #[.int .i64 5, .int .u8 0, .string ⟨#[]⟩, .int .i64 1, .slice (some ⟨g7, 0, none⟩) 1 1], .int .i64 0, .bool true]) ?_ rfl ?_
        · simp [results, Try.results48, go_sem]
          go_simp
          try rfl
        · exact HP3.out
      ·
        have HS5 := Lib.hid (HSW.out.call hk5)
        have hz9 : vcl0.cells = #[.int .i64 0, .int .u8 0, .string ⟨#[]⟩, .int .i64 0, .slice none 0 0] := rfl
        rw [hz9]
        have HS6 := Lib.hid (HS5.out.later ((Below.refl _ _).alloc (Nat.le_refl _) (.cells #[.int .i64 0, .int .u8 0, .string ⟨#[]⟩, .int .i64 0, .slice none 0 0] 32)))
        clear hz9 hk5 HS5 HSW HCC hix
        go_wp2
        go_roundw
        case rel => exact ⟨2, rq - EB.length, by omega, by go_num, rfl, by simp; omega, HS6.out⟩
        case measure => simp [intOf]
    · rw [if_neg (by decide), if_neg (by decide)] at hsum
      have HPP : Hid (PikP m l V (EN l i (sgW W a b)) r w (.returned (.tuple #[.agg #[.int .i64 0, .int .u8 0, .string ⟨#[]⟩, .int .i64 0, .slice none 0 0], .int .i64 (rq : Int), .bool false])) (put5c wr w.heap.size (.int .i64 0) (.int .u8 0) (.string ⟨#[]⟩) (.int .i64 0) (.slice none 0 0))) := by
        obtain ⟨k1, k2⟩ := put5c_rk HSW.out.rk HSW.out.z (Nat.le_refl _) (.int .i64 0) (.int .u8 0) (.string ⟨#[]⟩) (.int .i64 0) (.slice none 0 0)
        have hln : (EN l i (sgW W a b)).length = EA.length + EB.length := by rw [HEN.out, List.length_append, List.length_map, List.length_map]
        exact ⟨k1, .inr ⟨by rw [hln]; omega, by rw [hln, show r - (EA.length + EB.length) = rq by omega]; rfl⟩⟩
      have z0 := HSW.out.z.cell 0
      have z1 := HSW.out.z.cell 1
      have z2 := HSW.out.z.cell 2
      have z3 := HSW.out.z.cell 3
      have z4 := HSW.out.z.cell 4
      simp at z0 z1 z2 z3 z4
      have f0 := HSW.out.z.frozen 0
      have f1 := HSW.out.z.frozen 1
      have f2 := HSW.out.z.frozen 2
      have f3 := HSW.out.z.frozen 3
      have f4 := HSW.out.z.frozen 4
      have HP2 := HPP.out
      unfold put5c at HP2
      have HP3 := Lib.hid HP2
      clear HP2 HPP HSW hsum
      go_wp2
      refine bodyPost_ret (v := .tuple #[.agg #[.int .i64 0, .int .u8 0, .string ⟨#[]⟩, .int .i64 0, .slice none 0 0], .int .i64 (rq : Int), .bool false]) ?_ rfl ?_
      · simp [results, Try.results48, go_sem]
        go_simp
        try rfl
      · exact HP3.out
theorem VRp.rows {p : Nat -> Prop} {w : World} : ∀ {xs : List Vl} {A : Option Addr} {i : Nat}, VRp p w A i (Vs.of xs) -> ∃ L : List VCl, L.map (·.v) = xs /\ CKp p w L /\ ∀ k, k < L.length -> ∃ b off, A = some ⟨b, off, none⟩ /\ b < w.heap.size /\ p b /\ ∀ j, j < 5 -> w.cell? ⟨b, off + (i + k) * 5 + j, none⟩ = (L.getD k vcl0).cells[j]?
  | [], A, i, h => ⟨[], rfl, fun x hx => (by cases hx), fun k hk => absurd hk (Nat.not_lt_zero k)⟩
  | ⟨k, b, t, q, ks⟩ :: xs, A, i, h => by
    obtain ⟨⟨g, o, h1, h2, hp, B, c, h3, h4, h5⟩, h6⟩ := h
    obtain ⟨L, j1, j2, j3⟩ := VRp.rows h6
    refine ⟨⟨⟨k, b, t, q, ks⟩, B, c⟩ :: L, by rw [List.map_cons, j1], fun x hx => ?_, fun n hn => ?_⟩
    · rcases List.mem_cons.1 hx with rfl | hx
      · exact ⟨h3, h5⟩
      · exact j2 x hx
    · cases n with
      | zero => exact ⟨g, o, h1, h2, hp, fun j hj => h4 j hj⟩
      | succ n =>
        obtain ⟨b', off, e1, e2, e3, e4⟩ := j3 n (by simpa using hn)
        refine ⟨b', off, e1, e2, e3, fun j hj => ?_⟩
        rw [show i + (n + 1) = i + 1 + n by omega]
        exact e4 j hj
theorem NwV.rows {B : Nat} {w : World} {v : Value} {xs : List Vl} (h : NwV B w v xs) : ∃ (A : Option Addr) (c : Nat) (L : List VCl), v = .slice A L.length c /\ L.length <= c /\ L.map (·.v) = xs /\ CKp (fun b => B <= b) w L /\ ClRow w A L := by
  obtain ⟨A, c, h1, h2, h3⟩ := h
  obtain ⟨L, j1, j2, j3⟩ := h3.rows
  have hl : L.length = xs.length := by rw [<- j1, List.length_map]
  refine ⟨A, c, L, by rw [hl]; exact h1, by omega, j1, j2, fun i hi => ?_⟩
  obtain ⟨b, off, e1, e2, -, e4⟩ := j3 i hi
  exact ⟨b, off, e1, e2, fun j hj => by rw [<- e4 j hj, Nat.zero_add]⟩
structure VvS (m : Nat) (A : Option Addr) (l : List Nd) (c : Nat) (u : Value) (W V : Wd) (rb : Nat) (w0 : World) (bv : Array Value) (w : World) : Prop where
  rk : Rk m l V w0.heap.size [] w0 w
  rd : Rdr rb A l c u W V m w
  z : Blk w w0.heap.size #[.int .i64 0, .int .u8 0, .string ⟨#[]⟩, .int .i64 0, .slice none 0 0] 32
  b : Blk w (w0.heap.size + 1) bv 32
theorem VvS.later {m : Nat} {A : Option Addr} {l : List Nd} {c : Nat} {u : Value} {W V : Wd} {rb : Nat} {w0 w w' : World} {bv : Array Value} (h : VvS m A l c u W V rb w0 bv w) (hb : Below w.heap.size w w') : VvS m A l c u W V rb w0 bv w' := ⟨h.rk.later h.rk.size hb, h.rd.later hb, h.z.later hb, h.b.later hb⟩
theorem VvS.call {m : Nat} {A : Option Addr} {l : List Nd} {c : Nat} {u : Value} {W V : Wd} {rb : Nat} {w0 w w' : World} {bv : Array Value} (h : VvS m A l c u W V rb w0 bv w) (hk : Rk m l V w.heap.size [] w w') : VvS m A l c u W V rb w0 bv w' := ⟨h.rk.call h.rk.size hk, h.rd.rk hk, (hk.kc ⟨_, h.rd.kept⟩).block _ h.z.lt _ _ h.z, (hk.kc ⟨_, h.rd.kept⟩).block _ h.b.lt _ _ h.b⟩
theorem val_close {m : Nat} {l : List Nd} {V : Wd} {w0 w : World} {A : Option Addr} {c : Nat} {u : Value} {W : Wd} {rb : Nat} {xk : Int} {xb : UInt8} {xt : Wd} {xp : Int} {xs : Vs} {xB : Option Addr} {xc : Nat} {v : Vl} {bv : Array Value}
    (h : VvS m A l c u W V rb w0 bv w) (hv : (⟨xk, xb, xt, xp, xs⟩ : Vl) = v) (hx : VOk (fun b => w0.heap.size <= b /\ b ≠ w0.heap.size) w ⟨⟨xk, xb, xt, xp, xs⟩, xB, xc⟩) :
    ValP m l V w0 v (.returned (.agg #[.int .i64 xk, .int .u8 ((xb.toNat : Nat) : Int), .string (bs xt), .int .i64 xp, .slice xB xs.len xc])) (put5c w w0.heap.size (.int .i64 xk) (.int .u8 ((xb.toNat : Nat) : Int)) (.string (bs xt)) (.int .i64 xp) (.slice xB xs.len xc)) := by
  obtain ⟨h1, h2⟩ := put5c_rk h.rk h.z (Nat.le_refl _) (.int .i64 xk) (.int .u8 ((xb.toNat : Nat) : Int)) (.string (bs xt)) (.int .i64 xp) (.slice xB xs.len xc)
  exact ⟨⟨⟨xk, xb, xt, xp, xs⟩, xB, xc⟩, rfl, hv, VOk.turn (g := w0.heap.size) hx (by rw [put5c_size]; exact Nat.le_refl _) fun b hb => put5c_other hb, h1⟩
theorem VvS.setb {m : Nat} {A : Option Addr} {l : List Nd} {c : Nat} {u : Value} {W V : Wd} {rb : Nat} {w0 w : World} {bv : Array Value} (hr : Rdr rb A l c u W V m w0) (h : VvS m A l c u W V rb w0 bv w) (j : Nat) (x : Value) : VvS m A l c u W V rb w0 (bv.setIfInBounds j x) (w.setCell ⟨w0.heap.size + 1, j, none⟩ x) := by
  have hk := h.rk.setT h.b (by decide) (Nat.le_succ _) j x
  exact ⟨hk, hr.at_ (Nat.le_refl _) hk, h.z.setCell_ne (by show w0.heap.size + 1 ≠ w0.heap.size; omega) x, h.b.setCell j x⟩
theorem vok_set {p : Nat -> Prop} {w : World} {g j : Nat} {x : Value} {y : VCl} (h : VOk (fun b => p b /\ b ≠ g) w y) : VOk p (w.setCell ⟨g, j, none⟩ x) y := h.turn (by simp [World.setCell]) fun b hb => Below.heap_setCell _ _ _ _ hb
theorem VOk.deep {H H2 : Nat} {w : World} {y : VCl} (h : VOk (fun b => H2 <= b) w y) (hH : H + 1 < H2) : VOk (fun b => (H <= b /\ b ≠ H) /\ b ≠ H + 1) w y := ⟨h.1, h.2.mono fun b _ hb => ⟨⟨by omega, by omega⟩, by omega⟩⟩
set_option maxHeartbeats 16000000 in
theorem value_one {l : List Nd} {c m ba oa : Nat} {V : Wd} {i : Nat} (hF : Form l) (hi : i < l.length) (hk : (atN l i).kind = 1) : ValC (some ⟨ba, oa, none⟩) l c m V i := by
  intro rb u W a b r v w hr hW hab hb hrk hv
  have hv1 : (⟨1, 0, [], 0, .nil⟩ : Vl) = v := by
    unfold EN at hv; rw [if_pos hk] at hv
    split at hv
    · cases r with
      | zero => simpa using hv
      | succ n => simp at hv
    · simp at hv
  clear hv
  have hb1 := (Below.refl w.heap.size w).alloc (Nat.le_refl _) (.cells #[.int .i64 0, .int .u8 0, .string ⟨#[]⟩, .int .i64 0, .slice none 0 0] 32)
  have HR1 := Lib.hid (hr.later hb1)
  have HB1 := Lib.hid hb1
  have HZ1 := Lib.hid (Blk.new w #[.int .i64 0, .int .u8 0, .string ⟨#[]⟩, .int .i64 0, .slice none 0 0] 32)
  have HR0 := Lib.hid hr
  have HI := Lib.hid hi
  have HAT : Hid (∀ w', NRow w' (some ⟨ba, oa, none⟩) l -> At10 w' ba (oa + i * 10) (atN l i)) := fun w' h => h.at hi rfl
  unfold At10 at HAT
  rw [hk] at HAT
  have hil : (i : Int) < (l.length : Int) := by omega
  have hi0 : ¬ (i : Int) < 0 := by omega
  have hs1 : (w.alloc (.cells #[.int .i64 0, .int .u8 0, .string ⟨#[]⟩, .int .i64 0, .slice none 0 0] 32)).heap.size = w.heap.size + 1 := by simp
  clear hr hb1 hF hi
  go_enter Try.func32, Try.ntmps32
  go_upto_region 1 with (fail)
  generalize w.alloc (.cells #[.int .i64 0, .int .u8 0, .string ⟨#[]⟩, .int .i64 0, .slice none 0 0] 32) = w1 at *
  obtain ⟨g0, -⟩ := HAT.out _ HR1.out.rd.row
  have k0 := HR1.out.rd.blk.cell 0
  simp at k0
  have hb2 := (Below.refl w1.heap.size w1).alloc (Nat.le_refl _) (.cells #[.int .i64 1, .int .u8 0, .string ⟨#[]⟩, .int .i64 0, .slice none 0 0] 32)
  have HS2 : Hid (VvS m (some ⟨ba, oa, none⟩) l c u W V rb w #[.int .i64 1, .int .u8 0, .string ⟨#[]⟩, .int .i64 0, .slice none 0 0] (w1.alloc (.cells #[.int .i64 1, .int .u8 0, .string ⟨#[]⟩, .int .i64 0, .slice none 0 0] 32))) := by
    refine ⟨(Rk.of_below HB1.out).later HB1.out.size hb2, HR1.out.later hb2, HZ1.out.later hb2, ?_⟩
    have := Blk.new w1 #[.int .i64 1, .int .u8 0, .string ⟨#[]⟩, .int .i64 0, .slice none 0 0] 32
    rwa [hs1] at this
  clear hb2
  go_upto_region 3 with (fail)
  generalize w1.alloc (.cells #[.int .i64 1, .int .u8 0, .string ⟨#[]⟩, .int .i64 0, .slice none 0 0] 32) = w2 at *
  clear g0 k0 HR1 HB1 HZ1
  obtain ⟨g0, g1, g2, -, -, -, -, -, -, g9⟩ := HAT.out _ HS2.out.rd.rd.row
  have k0 := HS2.out.rd.rd.blk.cell 0
  simp at k0
  have k1 := HS2.out.rd.rd.blk.cell 1
  simp at k1
  have HPP := Lib.hid (val_close (xk := 1) (xb := 0) (xt := []) (xp := 0) (xs := .nil) (xB := none) (xc := 0) HS2.out hv1 ⟨Nat.le_refl _, trivial⟩)
  have HSF := HS2
  clear HS2 hv1
  have z0 := HSF.out.z.cell 0
  have z1 := HSF.out.z.cell 1
  have z2 := HSF.out.z.cell 2
  have z3 := HSF.out.z.cell 3
  have z4 := HSF.out.z.cell 4
  simp at z0 z1 z2 z3 z4
  have f0 := HSF.out.z.frozen 0
  have f1 := HSF.out.z.frozen 1
  have f2 := HSF.out.z.frozen 2
  have f3 := HSF.out.z.frozen 3
  have f4 := HSF.out.z.frozen 4
  have b0 := HSF.out.b.cell 0
  have b1 := HSF.out.b.cell 1
  have b2 := HSF.out.b.cell 2
  have b3 := HSF.out.b.cell 3
  have b4 := HSF.out.b.cell 4
  simp at b0 b1 b2 b3 b4
  have HP2 := HPP.out
  unfold put5c at HP2
  have HP3 := Lib.hid HP2
  clear HP2 HPP HSF
  go_wp2
  have HP4 := HP3.out
  clear HP3
  refine bodyPost_ret ?_ rfl HP4
  · simp [results, Try.results32, go_sem]
    go_simp
    all_goals first | rfl | exact ⟨rfl, rfl⟩
set_option maxHeartbeats 16000000 in
theorem value_byte {l : List Nd} {c m ba oa : Nat} {V : Wd} {i : Nat} (hF : Form l) (hi : i < l.length) (hk : (atN l i).kind = 2) : ValC (some ⟨ba, oa, none⟩) l c m V i := by
  intro rb u W a b r v w hr hW hab hb hrk hv
  obtain ⟨hv1, haW⟩ : (⟨2, W.getD a 0, [], 0, .nil⟩ : Vl) = v /\ a < W.length := by
    unfold EN at hv; rw [if_neg (by omega), if_pos hk] at hv
    split at hv
    case isTrue h =>
      have hl := h.1
      rw [sgW_len hb] at hl
      have e := sgW_at (W := W) (a := a) (b := b) (j := 0) (by omega)
      rw [Nat.add_zero] at e
      cases r with
      | zero => exact ⟨by rw [e] at hv; simpa using hv, by omega⟩
      | succ n => simp at hv
    case isFalse h => simp at hv
  clear hv
  obtain ⟨y, hy⟩ : ∃ y, W.getD a 0 = y := ⟨_, rfl⟩
  rw [hy] at hv1
  have HY := Lib.hid hy
  clear hy
  rcases hr.rd.wd with ⟨-, rfl⟩ | ⟨wb, wo, wc, hu, hwc, hwl, -, -⟩
  · simp at haW
  have HU := Lib.hid hu
  clear hu
  have haz : (a : Int) < (W.length : Int) := by omega
  have ha0 : ¬ (a : Int) < 0 := by omega
  have hb1 := (Below.refl w.heap.size w).alloc (Nat.le_refl _) (.cells #[.int .i64 0, .int .u8 0, .string ⟨#[]⟩, .int .i64 0, .slice none 0 0] 32)
  have HR1 := Lib.hid (hr.later hb1)
  have HB1 := Lib.hid hb1
  have HZ1 := Lib.hid (Blk.new w #[.int .i64 0, .int .u8 0, .string ⟨#[]⟩, .int .i64 0, .slice none 0 0] 32)
  have HR0 := Lib.hid hr
  have HI := Lib.hid hi
  have HAT : Hid (∀ w', NRow w' (some ⟨ba, oa, none⟩) l -> At10 w' ba (oa + i * 10) (atN l i)) := fun w' h => h.at hi rfl
  unfold At10 at HAT
  rw [hk] at HAT
  have hil : (i : Int) < (l.length : Int) := by omega
  have hi0 : ¬ (i : Int) < 0 := by omega
  have hs1 : (w.alloc (.cells #[.int .i64 0, .int .u8 0, .string ⟨#[]⟩, .int .i64 0, .slice none 0 0] 32)).heap.size = w.heap.size + 1 := by simp
  clear hr hb1 hF hi
  go_enter Try.func32, Try.ntmps32
  go_upto_region 1 with (fail)
  generalize w.alloc (.cells #[.int .i64 0, .int .u8 0, .string ⟨#[]⟩, .int .i64 0, .slice none 0 0] 32) = w1 at *
  obtain ⟨g0, -⟩ := HAT.out _ HR1.out.rd.row
  have k0 := HR1.out.rd.blk.cell 0
  simp at k0
  have hb2 := (Below.refl w1.heap.size w1).alloc (Nat.le_refl _) (.cells #[.int .i64 2, .int .u8 0, .string ⟨#[]⟩, .int .i64 0, .slice none 0 0] 32)
  have HS2 : Hid (VvS m (some ⟨ba, oa, none⟩) l c u W V rb w #[.int .i64 2, .int .u8 0, .string ⟨#[]⟩, .int .i64 0, .slice none 0 0] (w1.alloc (.cells #[.int .i64 2, .int .u8 0, .string ⟨#[]⟩, .int .i64 0, .slice none 0 0] 32))) := by
    refine ⟨(Rk.of_below HB1.out).later HB1.out.size hb2, HR1.out.later hb2, HZ1.out.later hb2, ?_⟩
    have := Blk.new w1 #[.int .i64 2, .int .u8 0, .string ⟨#[]⟩, .int .i64 0, .slice none 0 0] 32
    rwa [hs1] at this
  clear hb2
  go_upto_region 3 with (fail)
  generalize w1.alloc (.cells #[.int .i64 2, .int .u8 0, .string ⟨#[]⟩, .int .i64 0, .slice none 0 0] 32) = w2 at *
  clear g0 k0 HR1 HB1 HZ1
  obtain ⟨g0, g1, g2, -, -, -, -, -, -, g9⟩ := HAT.out _ HS2.out.rd.rd.row
  have k0 := HS2.out.rd.rd.blk.cell 0
  simp at k0
  have k1 := HS2.out.rd.rd.blk.cell 1
  simp at k1
  have q1 : w2.cell? ⟨wb, wo + a, none⟩ = some (.int .u8 ((y.toNat : Nat) : Int)) := by
    rcases HS2.out.rd.rd.wd with ⟨e, -⟩ | ⟨b', o', c', e, -, -, -, h⟩
    · rw [HU.out] at e; cases e
    · rw [HU.out] at e; cases e; rw [<- HY.out]; exact h a haW
  rw [HU.out] at k1
  have e1 := HS2.out.b.cell 1
  have e2 := HS2.out.b.frozen 1
  simp at e1
  have HSF : Hid (VvS m (some ⟨ba, oa, none⟩) l c u W V rb w #[.int .i64 2, .int .u8 ((y.toNat : Nat) : Int), .string ⟨#[]⟩, .int .i64 0, .slice none 0 0] (w2.setCell ⟨w.heap.size + 1, 1, none⟩ (.int .u8 ((y.toNat : Nat) : Int)))) := by
    have := HS2.out.setb HR0.out 1 (.int .u8 ((y.toNat : Nat) : Int))
    unfold Hid; simpa using this
  go_upto_region 19 with (fail)
  generalize w2.setCell ⟨w.heap.size + 1, 1, none⟩ (.int .u8 ((y.toNat : Nat) : Int)) = w3 at *
  have HPP := Lib.hid (val_close (xk := 2) (xb := y) (xt := []) (xp := 0) (xs := .nil) (xB := none) (xc := 0) HSF.out hv1 ⟨Nat.le_refl _, trivial⟩)
  clear HS2 hv1 q1 e1 e2 g0 g1 g2 g9 k0 k1
  have z0 := HSF.out.z.cell 0
  have z1 := HSF.out.z.cell 1
  have z2 := HSF.out.z.cell 2
  have z3 := HSF.out.z.cell 3
  have z4 := HSF.out.z.cell 4
  simp at z0 z1 z2 z3 z4
  have f0 := HSF.out.z.frozen 0
  have f1 := HSF.out.z.frozen 1
  have f2 := HSF.out.z.frozen 2
  have f3 := HSF.out.z.frozen 3
  have f4 := HSF.out.z.frozen 4
  have b0 := HSF.out.b.cell 0
  have b1 := HSF.out.b.cell 1
  have b2 := HSF.out.b.cell 2
  have b3 := HSF.out.b.cell 3
  have b4 := HSF.out.b.cell 4
  simp at b0 b1 b2 b3 b4
  have HP2 := HPP.out
  unfold put5c at HP2
  have HP3 := Lib.hid HP2
  clear HP2 HPP HSF
  go_wp2
  have HP4 := HP3.out
  clear HP3
  refine bodyPost_ret ?_ rfl HP4
  · simp [results, Try.results32, go_sem]
    go_simp
    all_goals first | rfl | exact ⟨rfl, rfl⟩
set_option maxHeartbeats 16000000 in
theorem value_text {l : List Nd} {c m ba oa : Nat} {V : Wd} {i : Nat} (hF : Form l) (hi : i < l.length) (hk : (atN l i).kind = 3) : ValC (some ⟨ba, oa, none⟩) l c m V i := by
  intro rb u W a b r v w hr hW hab hb hrk hv
  have hv1 : (⟨3, 0, (atN l i).text, 0, .nil⟩ : Vl) = v := by
    unfold EN at hv; rw [if_neg (by omega), if_neg (by omega), if_pos hk] at hv
    split at hv
    · cases r with
      | zero => simpa using hv
      | succ n => simp at hv
    · simp at hv
  clear hv
  have hb1 := (Below.refl w.heap.size w).alloc (Nat.le_refl _) (.cells #[.int .i64 0, .int .u8 0, .string ⟨#[]⟩, .int .i64 0, .slice none 0 0] 32)
  have HR1 := Lib.hid (hr.later hb1)
  have HB1 := Lib.hid hb1
  have HZ1 := Lib.hid (Blk.new w #[.int .i64 0, .int .u8 0, .string ⟨#[]⟩, .int .i64 0, .slice none 0 0] 32)
  have HR0 := Lib.hid hr
  have HI := Lib.hid hi
  have HAT : Hid (∀ w', NRow w' (some ⟨ba, oa, none⟩) l -> At10 w' ba (oa + i * 10) (atN l i)) := fun w' h => h.at hi rfl
  unfold At10 at HAT
  rw [hk] at HAT
  have hil : (i : Int) < (l.length : Int) := by omega
  have hi0 : ¬ (i : Int) < 0 := by omega
  have hs1 : (w.alloc (.cells #[.int .i64 0, .int .u8 0, .string ⟨#[]⟩, .int .i64 0, .slice none 0 0] 32)).heap.size = w.heap.size + 1 := by simp
  clear hr hb1 hF hi
  go_enter Try.func32, Try.ntmps32
  go_upto_region 1 with (fail)
  generalize w.alloc (.cells #[.int .i64 0, .int .u8 0, .string ⟨#[]⟩, .int .i64 0, .slice none 0 0] 32) = w1 at *
  obtain ⟨g0, -⟩ := HAT.out _ HR1.out.rd.row
  have k0 := HR1.out.rd.blk.cell 0
  simp at k0
  have hb2 := (Below.refl w1.heap.size w1).alloc (Nat.le_refl _) (.cells #[.int .i64 3, .int .u8 0, .string ⟨#[]⟩, .int .i64 0, .slice none 0 0] 32)
  have HS2 : Hid (VvS m (some ⟨ba, oa, none⟩) l c u W V rb w #[.int .i64 3, .int .u8 0, .string ⟨#[]⟩, .int .i64 0, .slice none 0 0] (w1.alloc (.cells #[.int .i64 3, .int .u8 0, .string ⟨#[]⟩, .int .i64 0, .slice none 0 0] 32))) := by
    refine ⟨(Rk.of_below HB1.out).later HB1.out.size hb2, HR1.out.later hb2, HZ1.out.later hb2, ?_⟩
    have := Blk.new w1 #[.int .i64 3, .int .u8 0, .string ⟨#[]⟩, .int .i64 0, .slice none 0 0] 32
    rwa [hs1] at this
  clear hb2
  go_upto_region 3 with (fail)
  generalize w1.alloc (.cells #[.int .i64 3, .int .u8 0, .string ⟨#[]⟩, .int .i64 0, .slice none 0 0] 32) = w2 at *
  clear g0 k0 HR1 HB1 HZ1
  obtain ⟨g0, g1, g2, -, -, -, -, -, -, g9⟩ := HAT.out _ HS2.out.rd.rd.row
  have k0 := HS2.out.rd.rd.blk.cell 0
  simp at k0
  have k1 := HS2.out.rd.rd.blk.cell 1
  simp at k1
  have e1 := HS2.out.b.cell 2
  have e2 := HS2.out.b.frozen 2
  simp at e1
  have HSF : Hid (VvS m (some ⟨ba, oa, none⟩) l c u W V rb w #[.int .i64 3, .int .u8 0, .string (bs (atN l i).text), .int .i64 0, .slice none 0 0] (w2.setCell ⟨w.heap.size + 1, 2, none⟩ (.string (bs (atN l i).text)))) := by
    have := HS2.out.setb HR0.out 2 (.string (bs (atN l i).text))
    unfold Hid; simpa using this
  go_upto_region 19 with (fail)
  generalize w2.setCell ⟨w.heap.size + 1, 2, none⟩ (.string (bs (atN l i).text)) = w3 at *
  have HPP := Lib.hid (val_close (xk := 3) (xb := 0) (xt := (atN l i).text) (xp := 0) (xs := .nil) (xB := none) (xc := 0) HSF.out hv1 ⟨Nat.le_refl _, trivial⟩)
  clear HS2 hv1 e1 e2 g0 g1 g2 g9 k0 k1
  have z0 := HSF.out.z.cell 0
  have z1 := HSF.out.z.cell 1
  have z2 := HSF.out.z.cell 2
  have z3 := HSF.out.z.cell 3
  have z4 := HSF.out.z.cell 4
  simp at z0 z1 z2 z3 z4
  have f0 := HSF.out.z.frozen 0
  have f1 := HSF.out.z.frozen 1
  have f2 := HSF.out.z.frozen 2
  have f3 := HSF.out.z.frozen 3
  have f4 := HSF.out.z.frozen 4
  have b0 := HSF.out.b.cell 0
  have b1 := HSF.out.b.cell 1
  have b2 := HSF.out.b.cell 2
  have b3 := HSF.out.b.cell 3
  have b4 := HSF.out.b.cell 4
  simp at b0 b1 b2 b3 b4
  have HP2 := HPP.out
  unfold put5c at HP2
  have HP3 := Lib.hid HP2
  clear HP2 HPP HSF
  go_wp2
  have HP4 := HP3.out
  clear HP3
  refine bodyPost_ret ?_ rfl HP4
  · simp [results, Try.results32, go_sem]
    go_simp
    all_goals first | rfl | exact ⟨rfl, rfl⟩
def RepC (A : Option Addr) (l : List Nd) (c m ba oa : Nat) (V : Wd) (i : Nat) : Prop := ∀ (rb : Nat) (u : Value) (W : Wd) (a b r : Nat) (xs : List Vl) (w : World), Rdr rb A l c u W V m w -> W <+: V -> a <= b -> b <= W.length -> r <= 1 -> ((List.range ((atN l i).hi + 1 - (atN l i).lo).toNat).flatMap fun t => rtE (EN l (atN l i).a.toNat) ((atN l i).lo.toNat + t) (sgW W a b))[r]? = some xs ->
  Calls Try.prog 50 #[.pointer (some ⟨rb, 0, none⟩), .pointer (some ⟨ba, oa + i * 10, none⟩), .int .i64 (a : Int), .int .i64 (b : Int), .int .i64 (r : Int)] w (KsP m l V xs w)
theorem map_get {α β : Type} {f : α -> β} {L : List α} {r : Nat} {v : β} (h : (L.map f)[r]? = some v) : ∃ x, L[r]? = some x /\ f x = v := by
  rw [List.getElem?_map] at h
  cases e : L[r]? with
  | none => rw [e] at h; cases h
  | some x => rw [e] at h; exact ⟨x, rfl, by simpa using h⟩
theorem kids_set {H : Nat} {w2 w5 : World} {ys : List Vl} {k : Int} {A : Option Addr} {c : Nat} (h : VRp (fun b => w2.heap.size <= b) w5 A 0 (Vs.of ys)) (hc : ys.length <= c) (hH : H + 1 < w2.heap.size) (x : Value) :
    VOk (fun b => H <= b /\ b ≠ H) (w5.setCell ⟨H + 1, 4, none⟩ x) ⟨⟨k, 0, [], 0, Vs.of ys⟩, A, c⟩ :=
  vok_set (VOk.deep (H2 := w2.heap.size) ⟨by show (Vs.of ys).len <= c; rw [Vs.of_len]; exact hc, h⟩ hH)
set_option maxHeartbeats 16000000 in
theorem value_star {l : List Nd} {c m ba oa : Nat} {V : Wd} {i : Nat} (hF : Form l) (hi : i < l.length) (hk : (atN l i).kind = 6) (hn : V.length <= 900) (hEi : EndsC (some ⟨ba, oa, none⟩) l c m V i) (hE : EndsC (some ⟨ba, oa, none⟩) l c m V (atN l i).a.toNat) (hV : ValC (some ⟨ba, oa, none⟩) l c m V (atN l i).a.toNat) : ValC (some ⟨ba, oa, none⟩) l c m V i := by
  intro rb u W a b r v w hr hW hab hb hrk hv
  rw [EN_k6 hF hi hk] at hv
  obtain ⟨ys, hys, hv1⟩ := map_get hv
  have HV1 := Lib.hid hv1
  have HCC := Lib.hid (fun (w' : World) (h : Rdr rb (some ⟨ba, oa, none⟩) l c u W V m w') => cstarKids_any hF hi hk hEi hE hV rb u W a b r ys w' h hW hn hab hb hrk hys)
  clear hv hys hv1 hEi hE hV
  have hb1 := (Below.refl w.heap.size w).alloc (Nat.le_refl _) (.cells #[.int .i64 0, .int .u8 0, .string ⟨#[]⟩, .int .i64 0, .slice none 0 0] 32)
  have HR1 := Lib.hid (hr.later hb1)
  have HB1 := Lib.hid hb1
  have HZ1 := Lib.hid (Blk.new w #[.int .i64 0, .int .u8 0, .string ⟨#[]⟩, .int .i64 0, .slice none 0 0] 32)
  have HR0 := Lib.hid hr
  have HI := Lib.hid hi
  have HAT : Hid (∀ w', NRow w' (some ⟨ba, oa, none⟩) l -> At10 w' ba (oa + i * 10) (atN l i)) := fun w' h => h.at hi rfl
  unfold At10 at HAT
  rw [hk] at HAT
  have hil : (i : Int) < (l.length : Int) := by omega
  have hi0 : ¬ (i : Int) < 0 := by omega
  have hs1 : (w.alloc (.cells #[.int .i64 0, .int .u8 0, .string ⟨#[]⟩, .int .i64 0, .slice none 0 0] 32)).heap.size = w.heap.size + 1 := by simp
  clear hr hb1 hF hi
  go_enter Try.func32, Try.ntmps32
  go_upto_region 1 with (fail)
  generalize w.alloc (.cells #[.int .i64 0, .int .u8 0, .string ⟨#[]⟩, .int .i64 0, .slice none 0 0] 32) = w1 at *
  obtain ⟨g0, -⟩ := HAT.out _ HR1.out.rd.row
  have k0 := HR1.out.rd.blk.cell 0
  simp at k0
  have hb2 := (Below.refl w1.heap.size w1).alloc (Nat.le_refl _) (.cells #[.int .i64 6, .int .u8 0, .string ⟨#[]⟩, .int .i64 0, .slice none 0 0] 32)
  have HS2 : Hid (VvS m (some ⟨ba, oa, none⟩) l c u W V rb w #[.int .i64 6, .int .u8 0, .string ⟨#[]⟩, .int .i64 0, .slice none 0 0] (w1.alloc (.cells #[.int .i64 6, .int .u8 0, .string ⟨#[]⟩, .int .i64 0, .slice none 0 0] 32))) := by
    refine ⟨(Rk.of_below HB1.out).later HB1.out.size hb2, HR1.out.later hb2, HZ1.out.later hb2, ?_⟩
    have := Blk.new w1 #[.int .i64 6, .int .u8 0, .string ⟨#[]⟩, .int .i64 0, .slice none 0 0] 32
    rwa [hs1] at this
  clear hb2
  go_upto_region 3 with (fail)
  generalize w1.alloc (.cells #[.int .i64 6, .int .u8 0, .string ⟨#[]⟩, .int .i64 0, .slice none 0 0] 32) = w2 at *
  clear g0 k0 HR1 HB1 HZ1
  obtain ⟨g0, g1, g2, -, -, -, -, -, -, g9⟩ := HAT.out _ HS2.out.rd.rd.row
  have k0 := HS2.out.rd.rd.blk.cell 0
  simp at k0
  have k1 := HS2.out.rd.rd.blk.cell 1
  simp at k1
  have HC := Lib.hid (HCC.out w2 HS2.out.rd)
  clear HCC
  go_wp2_with fail
  refine HC.out.mono ?_; rintro e w5 ⟨v5, rfl, ⟨A5, c5, rfl, hc5, hvr5⟩, hrk5⟩
  have HS5 := Lib.hid (HS2.out.call hrk5)
  have HOK := Lib.hid (fun x => kids_set (H := w.heap.size) (k := 6) hvr5 hc5 (HS2.out.b.lt) x)
  clear hrk5 hvr5 hc5 HC HS2 g0 g1 g2 g9 k0 k1
  have e1 := HS5.out.b.cell 4
  have e2 := HS5.out.b.frozen 4
  simp at e1
  have HSF : Hid (VvS m (some ⟨ba, oa, none⟩) l c u W V rb w #[.int .i64 6, .int .u8 0, .string ⟨#[]⟩, .int .i64 0, .slice A5 ys.length c5] (w5.setCell ⟨w.heap.size + 1, 4, none⟩ (.slice A5 ys.length c5))) := by
    have := HS5.out.setb HR0.out 4 (.slice A5 ys.length c5)
    unfold Hid; simpa using this
  have HPP := Lib.hid (val_close (xk := 6) (xb := 0) (xt := []) (xp := 0) (xs := Vs.of ys) (xB := A5) (xc := c5) HSF.out HV1.out (HOK.out _))
  rw [Vs.of_len] at HPP
  clear HS5 HOK HV1
  go_upto_region 19 with (fail)
  generalize w5.setCell ⟨w.heap.size + 1, 4, none⟩ (.slice A5 ys.length c5) = w6 at *
  clear e1 e2
  have z0 := HSF.out.z.cell 0
  have z1 := HSF.out.z.cell 1
  have z2 := HSF.out.z.cell 2
  have z3 := HSF.out.z.cell 3
  have z4 := HSF.out.z.cell 4
  simp at z0 z1 z2 z3 z4
  have f0 := HSF.out.z.frozen 0
  have f1 := HSF.out.z.frozen 1
  have f2 := HSF.out.z.frozen 2
  have f3 := HSF.out.z.frozen 3
  have f4 := HSF.out.z.frozen 4
  have b0 := HSF.out.b.cell 0
  have b1 := HSF.out.b.cell 1
  have b2 := HSF.out.b.cell 2
  have b3 := HSF.out.b.cell 3
  have b4 := HSF.out.b.cell 4
  simp at b0 b1 b2 b3 b4
  have HP2 := HPP.out
  unfold put5c at HP2
  have HP3 := Lib.hid HP2
  clear HP2 HPP HSF
  go_wp2
  have HP4 := HP3.out
  clear HP3
  refine bodyPost_ret ?_ rfl HP4
  · simp [results, Try.results32, go_sem]
    go_simp
    all_goals first | rfl | exact ⟨rfl, rfl⟩
set_option maxHeartbeats 16000000 in
theorem value_rep {l : List Nd} {c m ba oa : Nat} {V : Wd} {i : Nat} (hF : Form l) (hi : i < l.length) (hk : (atN l i).kind = 7) (hR : RepC (some ⟨ba, oa, none⟩) l c m ba oa V i) : ValC (some ⟨ba, oa, none⟩) l c m V i := by
  intro rb u W a b r v w hr hW hab hb hrk hv
  rw [EN_k7 hF hi hk] at hv
  obtain ⟨ys, hys, hv1⟩ := map_get hv
  have HV1 := Lib.hid hv1
  have HCC := Lib.hid (fun (w' : World) (h : Rdr rb (some ⟨ba, oa, none⟩) l c u W V m w') => hR rb u W a b r ys w' h hW hab hb hrk hys)
  clear hv hys hv1 hR
  have hb1 := (Below.refl w.heap.size w).alloc (Nat.le_refl _) (.cells #[.int .i64 0, .int .u8 0, .string ⟨#[]⟩, .int .i64 0, .slice none 0 0] 32)
  have HR1 := Lib.hid (hr.later hb1)
  have HB1 := Lib.hid hb1
  have HZ1 := Lib.hid (Blk.new w #[.int .i64 0, .int .u8 0, .string ⟨#[]⟩, .int .i64 0, .slice none 0 0] 32)
  have HR0 := Lib.hid hr
  have HI := Lib.hid hi
  have HAT : Hid (∀ w', NRow w' (some ⟨ba, oa, none⟩) l -> At10 w' ba (oa + i * 10) (atN l i)) := fun w' h => h.at hi rfl
  unfold At10 at HAT
  rw [hk] at HAT
  have hil : (i : Int) < (l.length : Int) := by omega
  have hi0 : ¬ (i : Int) < 0 := by omega
  have hs1 : (w.alloc (.cells #[.int .i64 0, .int .u8 0, .string ⟨#[]⟩, .int .i64 0, .slice none 0 0] 32)).heap.size = w.heap.size + 1 := by simp
  clear hr hb1 hF hi
  go_enter Try.func32, Try.ntmps32
  go_upto_region 1 with (fail)
  generalize w.alloc (.cells #[.int .i64 0, .int .u8 0, .string ⟨#[]⟩, .int .i64 0, .slice none 0 0] 32) = w1 at *
  obtain ⟨g0, -⟩ := HAT.out _ HR1.out.rd.row
  have k0 := HR1.out.rd.blk.cell 0
  simp at k0
  have hb2 := (Below.refl w1.heap.size w1).alloc (Nat.le_refl _) (.cells #[.int .i64 7, .int .u8 0, .string ⟨#[]⟩, .int .i64 0, .slice none 0 0] 32)
  have HS2 : Hid (VvS m (some ⟨ba, oa, none⟩) l c u W V rb w #[.int .i64 7, .int .u8 0, .string ⟨#[]⟩, .int .i64 0, .slice none 0 0] (w1.alloc (.cells #[.int .i64 7, .int .u8 0, .string ⟨#[]⟩, .int .i64 0, .slice none 0 0] 32))) := by
    refine ⟨(Rk.of_below HB1.out).later HB1.out.size hb2, HR1.out.later hb2, HZ1.out.later hb2, ?_⟩
    have := Blk.new w1 #[.int .i64 7, .int .u8 0, .string ⟨#[]⟩, .int .i64 0, .slice none 0 0] 32
    rwa [hs1] at this
  clear hb2
  go_upto_region 3 with (fail)
  generalize w1.alloc (.cells #[.int .i64 7, .int .u8 0, .string ⟨#[]⟩, .int .i64 0, .slice none 0 0] 32) = w2 at *
  clear g0 k0 HR1 HB1 HZ1
  obtain ⟨g0, g1, g2, -, -, -, -, -, -, g9⟩ := HAT.out _ HS2.out.rd.rd.row
  have k0 := HS2.out.rd.rd.blk.cell 0
  simp at k0
  have k1 := HS2.out.rd.rd.blk.cell 1
  simp at k1
  have HC := Lib.hid (HCC.out w2 HS2.out.rd)
  clear HCC
  go_wp2_with fail
  refine HC.out.mono ?_; rintro e w5 ⟨v5, rfl, ⟨A5, c5, rfl, hc5, hvr5⟩, hrk5⟩
  have HS5 := Lib.hid (HS2.out.call hrk5)
  have HOK := Lib.hid (fun x => kids_set (H := w.heap.size) (k := 7) hvr5 hc5 (HS2.out.b.lt) x)
  clear hrk5 hvr5 hc5 HC HS2 g0 g1 g2 g9 k0 k1
  have e1 := HS5.out.b.cell 4
  have e2 := HS5.out.b.frozen 4
  simp at e1
  have HSF : Hid (VvS m (some ⟨ba, oa, none⟩) l c u W V rb w #[.int .i64 7, .int .u8 0, .string ⟨#[]⟩, .int .i64 0, .slice A5 ys.length c5] (w5.setCell ⟨w.heap.size + 1, 4, none⟩ (.slice A5 ys.length c5))) := by
    have := HS5.out.setb HR0.out 4 (.slice A5 ys.length c5)
    unfold Hid; simpa using this
  have HPP := Lib.hid (val_close (xk := 7) (xb := 0) (xt := []) (xp := 0) (xs := Vs.of ys) (xB := A5) (xc := c5) HSF.out HV1.out (HOK.out _))
  rw [Vs.of_len] at HPP
  clear HS5 HOK HV1
  go_upto_region 19 with (fail)
  generalize w5.setCell ⟨w.heap.size + 1, 4, none⟩ (.slice A5 ys.length c5) = w6 at *
  clear e1 e2
  have z0 := HSF.out.z.cell 0
  have z1 := HSF.out.z.cell 1
  have z2 := HSF.out.z.cell 2
  have z3 := HSF.out.z.cell 3
  have z4 := HSF.out.z.cell 4
  simp at z0 z1 z2 z3 z4
  have f0 := HSF.out.z.frozen 0
  have f1 := HSF.out.z.frozen 1
  have f2 := HSF.out.z.frozen 2
  have f3 := HSF.out.z.frozen 3
  have f4 := HSF.out.z.frozen 4
  have b0 := HSF.out.b.cell 0
  have b1 := HSF.out.b.cell 1
  have b2 := HSF.out.b.cell 2
  have b3 := HSF.out.b.cell 3
  have b4 := HSF.out.b.cell 4
  simp at b0 b1 b2 b3 b4
  have HP2 := HPP.out
  unfold put5c at HP2
  have HP3 := Lib.hid HP2
  clear HP2 HPP HSF
  go_wp2
  have HP4 := HP3.out
  clear HP3
  refine bodyPost_ret ?_ rfl HP4
  · simp [results, Try.results32, go_sem]
    go_simp
    all_goals first | rfl | exact ⟨rfl, rfl⟩
end Go.Proofs.Ytpbbokdmoaadfaa
