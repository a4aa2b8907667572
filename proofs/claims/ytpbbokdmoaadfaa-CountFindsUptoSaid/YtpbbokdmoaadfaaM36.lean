/- Counting: one of the values of a span: what needs no other. Walked. -/
import Derived.Test.YtpbbokdmoaadfaaM35
namespace Go.Proofs.Ytpbbokdmoaadfaa
set_option maxHeartbeats 64000000
set_option maxRecDepth 1000000
set_option linter.all false
open Go Go.RowKit
theorem VRp.rows {p : Nat -> Prop} {w : World} : ∀ {xs : List Vl} {A : Option Addr} {i : Nat}, VRp p w A i (Vs.of xs) -> ∃ L : List VCl, L.map (·.v) = xs /\ CKp p w L /\ ∀ k, k < L.length -> ∃ b off, A = some ⟨b, off, none⟩ /\ b < w.heap.size /\ p b /\ ∀ j, j < 5 -> w.cell? ⟨b, off + (i + k) * 5 + j, none⟩ = (L.getD k vcl0).cells[j]?
 | [], A, i, h => ⟨[], rfl, fun x hx => (by cases hx), fun k hk => absurd hk (Nat.not_lt_zero k)⟩
 | ⟨k, b, t, q, ks⟩ :: xs, A, i, h => by
  obtain ⟨⟨g, o, h1, h2, hp, B, c, h3, h4, h5⟩, h6⟩ := h
  obtain ⟨L, j1, j2, j3⟩ := VRp.rows h6
  refine ⟨⟨⟨k, b, t, q, ks⟩, B, c⟩ :: L, by rw [List.map_cons, j1], fun x hx => ?_, fun n hn => ?_⟩
  ·rcases List.mem_cons.1 hx with rfl | hx
   ·exact ⟨h3, h5⟩
   ·exact j2 x hx
  ·cases n with
   | zero => exact ⟨g, o, h1, h2, hp, fun j hj => h4 j hj⟩
   | succ n =>
    obtain ⟨b', off, e1, e2, e3, e4⟩ := j3 n (by simpa using hn)
    refine ⟨b', off, e1, e2, e3, fun j hj => ?_⟩
    rw [show i + (n + 1) = i + 1 + n by omega]
    exact e4 j hj
theorem NwV.rows {B : Nat} {w : World} {v : Value} {xs : List Vl} (h : NwV B w v xs) : ∃ (A : Option Addr) (c : Nat) (L : List VCl), v = .slice A L.length c /\ L.length <= c /\ L.map (·.v) = xs /\ CKp (fun b => B <= b) w L /\ ClRow w A L := by
 obtain ⟨A, c, h1, h2, h3⟩ := h
 obtain ⟨L, j1, j2, j3⟩ := h3.rows
 have hl : L.length = xs.length := by rw [<- j1, List.length_map]
 refine ⟨A, c, L, by rw [hl]; exact h1, by omega, j1, j2, fun i hi => ?_⟩
 obtain ⟨b, off, e1, e2, -, e4⟩ := j3 i hi
 exact ⟨b, off, e1, e2, fun j hj => by rw [<- e4 j hj, Nat.zero_add]⟩
structure VvS (m : Nat) (A : Option Addr) (l : List Nd) (c : Nat) (u : Value) (W V : Wd) (rb : Nat) (w0 : World) (bv : Array Value) (w : World) : Prop where
 rk : Rk m l V w0.heap.size [] w0 w
 rd : Rdr rb A l c u W V m w
 z : Blk w w0.heap.size #[.int .i64 0, .int .u8 0, .string ⟨#[]⟩, .int .i64 0, .slice none 0 0] 32
 b : Blk w (w0.heap.size + 1) bv 32
theorem VvS.later {m : Nat} {A : Option Addr} {l : List Nd} {c : Nat} {u : Value} {W V : Wd} {rb : Nat} {w0 w w' : World} {bv : Array Value} (h : VvS m A l c u W V rb w0 bv w) (hb : Below w.heap.size w w') : VvS m A l c u W V rb w0 bv w' := ⟨h.rk.later h.rk.size hb, h.rd.later hb, h.z.later hb, h.b.later hb⟩
theorem VvS.call {m : Nat} {A : Option Addr} {l : List Nd} {c : Nat} {u : Value} {W V : Wd} {rb : Nat} {w0 w w' : World} {bv : Array Value} (h : VvS m A l c u W V rb w0 bv w) (hk : Rk m l V w.heap.size [] w w') : VvS m A l c u W V rb w0 bv w' := ⟨h.rk.call h.rk.size hk, h.rd.rk hk, (hk.kc ⟨_, h.rd.kept⟩).block _ h.z.lt _ _ h.z, (hk.kc ⟨_, h.rd.kept⟩).block _ h.b.lt _ _ h.b⟩
theorem val_close {m : Nat} {l : List Nd} {V : Wd} {w0 w : World} {A : Option Addr} {c : Nat} {u : Value} {W : Wd} {rb : Nat} {xk : Int} {xb : UInt8} {xt : Wd} {xp : Int} {xs : Vs} {xB : Option Addr} {xc : Nat} {v : Vl} {bv : Array Value}
 (h : VvS m A l c u W V rb w0 bv w) (hv : (⟨xk, xb, xt, xp, xs⟩ : Vl) = v) (hx : VOk (fun b => w0.heap.size <= b /\ b ≠ w0.heap.size) w ⟨⟨xk, xb, xt, xp, xs⟩, xB, xc⟩) :
 ValP m l V w0 v (.returned (.agg #[.int .i64 xk, .int .u8 ((xb.toNat : Nat) : Int), .string (bs xt), .int .i64 xp, .slice xB xs.len xc])) (put5c w w0.heap.size (.int .i64 xk) (.int .u8 ((xb.toNat : Nat) : Int)) (.string (bs xt)) (.int .i64 xp) (.slice xB xs.len xc)) := by
 obtain ⟨h1, h2⟩ := put5c_rk h.rk h.z (Nat.le_refl _) (.int .i64 xk) (.int .u8 ((xb.toNat : Nat) : Int)) (.string (bs xt)) (.int .i64 xp) (.slice xB xs.len xc)
 exact ⟨⟨⟨xk, xb, xt, xp, xs⟩, xB, xc⟩, rfl, hv, VOk.turn (g := w0.heap.size) hx (by rw [put5c_size]; exact Nat.le_refl _) fun b hb => put5c_other hb, h1⟩
theorem VvS.setb {m : Nat} {A : Option Addr} {l : List Nd} {c : Nat} {u : Value} {W V : Wd} {rb : Nat} {w0 w : World} {bv : Array Value} (hr : Rdr rb A l c u W V m w0) (h : VvS m A l c u W V rb w0 bv w) (j : Nat) (x : Value) : VvS m A l c u W V rb w0 (bv.setIfInBounds j x) (w.setCell ⟨w0.heap.size + 1, j, none⟩ x) := by
 have hk := h.rk.setT h.b (by decide) (Nat.le_succ _) j x
 exact ⟨hk, hr.at_ (Nat.le_refl _) hk, h.z.setCell_ne (by show w0.heap.size + 1 ≠ w0.heap.size; omega) x, h.b.setCell j x⟩
theorem vok_set {p : Nat -> Prop} {w : World} {g j : Nat} {x : Value} {y : VCl} (h : VOk (fun b => p b /\ b ≠ g) w y) : VOk p (w.setCell ⟨g, j, none⟩ x) y := h.turn (by simp [World.setCell]) fun b hb => Below.heap_setCell _ _ _ _ hb
theorem VOk.deep {H H2 : Nat} {w : World} {y : VCl} (h : VOk (fun b => H2 <= b) w y) (hH : H + 1 < H2) : VOk (fun b => (H <= b /\ b ≠ H) /\ b ≠ H + 1) w y := ⟨h.1, h.2.mono fun b _ hb => ⟨⟨by omega, by omega⟩, by omega⟩⟩
theorem value_one {l : List Nd} {c m ba oa : Nat} {V : Wd} {i : Nat} (hF : Form l) (hi : i < l.length) (hk : (atN l i).kind = 1) : ValC (some ⟨ba, oa, none⟩) l c m V i := by
 intro rb u W a b r v w hr hW hab hb hrk hv
 have hv1 : (⟨1, 0, [], 0, .nil⟩ : Vl) = v := by
  unfold EN at hv; rw [if_pos hk] at hv
  split at hv
  ·cases r with
   | zero => simpa using hv
   | succ n => simp at hv
  ·simp at hv
 clear hv
 have hb1 := (Below.refl w.heap.size w).alloc (Nat.le_refl _) (.cells #[.int .i64 0, .int .u8 0, .string ⟨#[]⟩, .int .i64 0, .slice none 0 0] 32)
 have HR1 := Lib.hid (hr.later hb1)
 have HB1 := Lib.hid hb1
 have HZ1 := Lib.hid (Blk.new w #[.int .i64 0, .int .u8 0, .string ⟨#[]⟩, .int .i64 0, .slice none 0 0] 32)
 have HR0 := Lib.hid hr
 have HI := Lib.hid hi
 have HAT : Hid (∀ w', NRow w' (some ⟨ba, oa, none⟩) l -> At10 w' ba (oa + i * 10) (atN l i)) := fun w' h => h.at hi rfl
 unfold At10 at HAT
 rw [hk] at HAT
 have hil : (i : Int) < (l.length : Int) := by omega
 have hi0 : ¬ (i : Int) < 0 := by omega
 have hs1 : (w.alloc (.cells #[.int .i64 0, .int .u8 0, .string ⟨#[]⟩, .int .i64 0, .slice none 0 0] 32)).heap.size = w.heap.size + 1 := by simp
 clear hr hb1 hF hi
 go_enter Try.func32, Try.ntmps32
 go_upto_region 1 with (fail)
 generalize w.alloc (.cells #[.int .i64 0, .int .u8 0, .string ⟨#[]⟩, .int .i64 0, .slice none 0 0] 32) = w1 at *
 obtain ⟨g0, -⟩ := HAT.out _ HR1.out.rd.row
 have k0 := HR1.out.rd.blk.cell 0
 simp at k0
 have hb2 := (Below.refl w1.heap.size w1).alloc (Nat.le_refl _) (.cells #[.int .i64 1, .int .u8 0, .string ⟨#[]⟩, .int .i64 0, .slice none 0 0] 32)
 have HS2 : Hid (VvS m (some ⟨ba, oa, none⟩) l c u W V rb w #[.int .i64 1, .int .u8 0, .string ⟨#[]⟩, .int .i64 0, .slice none 0 0] (w1.alloc (.cells #[.int .i64 1, .int .u8 0, .string ⟨#[]⟩, .int .i64 0, .slice none 0 0] 32))) := by
  refine ⟨(Rk.of_below HB1.out).later HB1.out.size hb2, HR1.out.later hb2, HZ1.out.later hb2, ?_⟩
  have := Blk.new w1 #[.int .i64 1, .int .u8 0, .string ⟨#[]⟩, .int .i64 0, .slice none 0 0] 32
  rwa [hs1] at this
 clear hb2
 go_upto_region 3 with (fail)
 generalize w1.alloc (.cells #[.int .i64 1, .int .u8 0, .string ⟨#[]⟩, .int .i64 0, .slice none 0 0] 32) = w2 at *
 clear g0 k0 HR1 HB1 HZ1
 obtain ⟨g0, g1, g2, -, -, -, -, -, -, g9⟩ := HAT.out _ HS2.out.rd.rd.row
 have k0 := HS2.out.rd.rd.blk.cell 0
 simp at k0
 have k1 := HS2.out.rd.rd.blk.cell 1
 simp at k1
 have HPP := Lib.hid (val_close (xk := 1) (xb := 0) (xt := []) (xp := 0) (xs := .nil) (xB := none) (xc := 0) HS2.out hv1 ⟨Nat.le_refl _, trivial⟩)
 have HSF := HS2
 clear HS2 hv1
 have z0 := HSF.out.z.cell 0
 have z1 := HSF.out.z.cell 1
 have z2 := HSF.out.z.cell 2
 have z3 := HSF.out.z.cell 3
 have z4 := HSF.out.z.cell 4
 simp at z0 z1 z2 z3 z4
 have f0 := HSF.out.z.frozen 0
 have f1 := HSF.out.z.frozen 1
 have f2 := HSF.out.z.frozen 2
 have f3 := HSF.out.z.frozen 3
 have f4 := HSF.out.z.frozen 4
 have b0 := HSF.out.b.cell 0
 have b1 := HSF.out.b.cell 1
 have b2 := HSF.out.b.cell 2
 have b3 := HSF.out.b.cell 3
 have b4 := HSF.out.b.cell 4
 simp at b0 b1 b2 b3 b4
 have HP2 := HPP.out
 unfold put5c at HP2
 have HP3 := Lib.hid HP2
 clear HP2 HPP HSF
 go_wp2
 have HP4 := HP3.out
 clear HP3
 refine bodyPost_ret ?_ rfl HP4
 ·simp [results, Try.results32, go_sem]
  go_simp
  all_goals first | rfl | exact ⟨rfl, rfl⟩
theorem value_byte {l : List Nd} {c m ba oa : Nat} {V : Wd} {i : Nat} (hF : Form l) (hi : i < l.length) (hk : (atN l i).kind = 2) : ValC (some ⟨ba, oa, none⟩) l c m V i := by
 intro rb u W a b r v w hr hW hab hb hrk hv
 obtain ⟨hv1, haW⟩ : (⟨2, W.getD a 0, [], 0, .nil⟩ : Vl) = v /\ a < W.length := by
  unfold EN at hv; rw [if_neg (by omega), if_pos hk] at hv
  split at hv
  case isTrue h =>
   have hl := h.1
   rw [sgW_len hb] at hl
   have e := sgW_at (W := W) (a := a) (b := b) (j := 0) (by omega)
   rw [Nat.add_zero] at e
   cases r with
   | zero => exact ⟨by rw [e] at hv; simpa using hv, by omega⟩
   | succ n => simp at hv
  case isFalse h => simp at hv
 clear hv
 obtain ⟨y, hy⟩ : ∃ y, W.getD a 0 = y := ⟨_, rfl⟩
 rw [hy] at hv1
 have HY := Lib.hid hy
 clear hy
 rcases hr.rd.wd with ⟨-, rfl⟩ | ⟨wb, wo, wc, hu, hwc, hwl, -, -⟩
 ·simp at haW
 have HU := Lib.hid hu
 clear hu
 have haz : (a : Int) < (W.length : Int) := by omega
 have ha0 : ¬ (a : Int) < 0 := by omega
 have hb1 := (Below.refl w.heap.size w).alloc (Nat.le_refl _) (.cells #[.int .i64 0, .int .u8 0, .string ⟨#[]⟩, .int .i64 0, .slice none 0 0] 32)
 have HR1 := Lib.hid (hr.later hb1)
 have HB1 := Lib.hid hb1
 have HZ1 := Lib.hid (Blk.new w #[.int .i64 0, .int .u8 0, .string ⟨#[]⟩, .int .i64 0, .slice none 0 0] 32)
 have HR0 := Lib.hid hr
 have HI := Lib.hid hi
 have HAT : Hid (∀ w', NRow w' (some ⟨ba, oa, none⟩) l -> At10 w' ba (oa + i * 10) (atN l i)) := fun w' h => h.at hi rfl
 unfold At10 at HAT
 rw [hk] at HAT
 have hil : (i : Int) < (l.length : Int) := by omega
 have hi0 : ¬ (i : Int) < 0 := by omega
 have hs1 : (w.alloc (.cells #[.int .i64 0, .int .u8 0, .string ⟨#[]⟩, .int .i64 0, .slice none 0 0] 32)).heap.size = w.heap.size + 1 := by simp
 clear hr hb1 hF hi
 go_enter Try.func32, Try.ntmps32
 go_upto_region 1 with (fail)
 generalize w.alloc (.cells #[.int .i64 0, .int .u8 0, .string ⟨#[]⟩, .int .i64 0, .slice none 0 0] 32) = w1 at *
 obtain ⟨g0, -⟩ := HAT.out _ HR1.out.rd.row
 have k0 := HR1.out.rd.blk.cell 0
 simp at k0
 have hb2 := (Below.refl w1.heap.size w1).alloc (Nat.le_refl _) (.cells #[.int .i64 2, .int .u8 0, .string ⟨#[]⟩, .int .i64 0, .slice none 0 0] 32)
 have HS2 : Hid (VvS m (some ⟨ba, oa, none⟩) l c u W V rb w #[.int .i64 2, .int .u8 0, .string ⟨#[]⟩, .int .i64 0, .slice none 0 0] (w1.alloc (.cells #[.int .i64 2, .int .u8 0, .string ⟨#[]⟩, .int .i64 0, .slice none 0 0] 32))) := by
  refine ⟨(Rk.of_below HB1.out).later HB1.out.size hb2, HR1.out.later hb2, HZ1.out.later hb2, ?_⟩
  have := Blk.new w1 #[.int .i64 2, .int .u8 0, .string ⟨#[]⟩, .int .i64 0, .slice none 0 0] 32
  rwa [hs1] at this
 clear hb2
 go_upto_region 3 with (fail)
 generalize w1.alloc (.cells #[.int .i64 2, .int .u8 0, .string ⟨#[]⟩, .int .i64 0, .slice none 0 0] 32) = w2 at *
 clear g0 k0 HR1 HB1 HZ1
 obtain ⟨g0, g1, g2, -, -, -, -, -, -, g9⟩ := HAT.out _ HS2.out.rd.rd.row
 have k0 := HS2.out.rd.rd.blk.cell 0
 simp at k0
 have k1 := HS2.out.rd.rd.blk.cell 1
 simp at k1
 have q1 : w2.cell? ⟨wb, wo + a, none⟩ = some (.int .u8 ((y.toNat : Nat) : Int)) := by
  rcases HS2.out.rd.rd.wd with ⟨e, -⟩ | ⟨b', o', c', e, -, -, -, h⟩
  ·rw [HU.out] at e; cases e
  ·rw [HU.out] at e; cases e; rw [<- HY.out]; exact h a haW
 rw [HU.out] at k1
 have e1 := HS2.out.b.cell 1
 have e2 := HS2.out.b.frozen 1
 simp at e1
 have HSF : Hid (VvS m (some ⟨ba, oa, none⟩) l c u W V rb w #[.int .i64 2, .int .u8 ((y.toNat : Nat) : Int), .string ⟨#[]⟩, .int .i64 0, .slice none 0 0] (w2.setCell ⟨w.heap.size + 1, 1, none⟩ (.int .u8 ((y.toNat : Nat) : Int)))) := by
  have := HS2.out.setb HR0.out 1 (.int .u8 ((y.toNat : Nat) : Int))
  unfold Hid; simpa using this
 go_upto_region 19 with (fail)
 generalize w2.setCell ⟨w.heap.size + 1, 1, none⟩ (.int .u8 ((y.toNat : Nat) : Int)) = w3 at *
 have HPP := Lib.hid (val_close (xk := 2) (xb := y) (xt := []) (xp := 0) (xs := .nil) (xB := none) (xc := 0) HSF.out hv1 ⟨Nat.le_refl _, trivial⟩)
 clear HS2 hv1 q1 e1 e2 g0 g1 g2 g9 k0 k1
 have z0 := HSF.out.z.cell 0
 have z1 := HSF.out.z.cell 1
 have z2 := HSF.out.z.cell 2
 have z3 := HSF.out.z.cell 3
 have z4 := HSF.out.z.cell 4
 simp at z0 z1 z2 z3 z4
 have f0 := HSF.out.z.frozen 0
 have f1 := HSF.out.z.frozen 1
 have f2 := HSF.out.z.frozen 2
 have f3 := HSF.out.z.frozen 3
 have f4 := HSF.out.z.frozen 4
 have b0 := HSF.out.b.cell 0
 have b1 := HSF.out.b.cell 1
 have b2 := HSF.out.b.cell 2
 have b3 := HSF.out.b.cell 3
 have b4 := HSF.out.b.cell 4
 simp at b0 b1 b2 b3 b4
 have HP2 := HPP.out
 unfold put5c at HP2
 have HP3 := Lib.hid HP2
 clear HP2 HPP HSF
 go_wp2
 have HP4 := HP3.out
 clear HP3
 refine bodyPost_ret ?_ rfl HP4
 ·simp [results, Try.results32, go_sem]
  go_simp
  all_goals first | rfl | exact ⟨rfl, rfl⟩
theorem value_text {l : List Nd} {c m ba oa : Nat} {V : Wd} {i : Nat} (hF : Form l) (hi : i < l.length) (hk : (atN l i).kind = 3) : ValC (some ⟨ba, oa, none⟩) l c m V i := by
 intro rb u W a b r v w hr hW hab hb hrk hv
 have hv1 : (⟨3, 0, (atN l i).text, 0, .nil⟩ : Vl) = v := by
  unfold EN at hv; rw [if_neg (by omega), if_neg (by omega), if_pos hk] at hv
  split at hv
  ·cases r with
   | zero => simpa using hv
   | succ n => simp at hv
  ·simp at hv
 clear hv
 have hb1 := (Below.refl w.heap.size w).alloc (Nat.le_refl _) (.cells #[.int .i64 0, .int .u8 0, .string ⟨#[]⟩, .int .i64 0, .slice none 0 0] 32)
 have HR1 := Lib.hid (hr.later hb1)
 have HB1 := Lib.hid hb1
 have HZ1 := Lib.hid (Blk.new w #[.int .i64 0, .int .u8 0, .string ⟨#[]⟩, .int .i64 0, .slice none 0 0] 32)
 have HR0 := Lib.hid hr
 have HI := Lib.hid hi
 have HAT : Hid (∀ w', NRow w' (some ⟨ba, oa, none⟩) l -> At10 w' ba (oa + i * 10) (atN l i)) := fun w' h => h.at hi rfl
 unfold At10 at HAT
 rw [hk] at HAT
 have hil : (i : Int) < (l.length : Int) := by omega
 have hi0 : ¬ (i : Int) < 0 := by omega
 have hs1 : (w.alloc (.cells #[.int .i64 0, .int .u8 0, .string ⟨#[]⟩, .int .i64 0, .slice none 0 0] 32)).heap.size = w.heap.size + 1 := by simp
 clear hr hb1 hF hi
 go_enter Try.func32, Try.ntmps32
 go_upto_region 1 with (fail)
 generalize w.alloc (.cells #[.int .i64 0, .int .u8 0, .string ⟨#[]⟩, .int .i64 0, .slice none 0 0] 32) = w1 at *
 obtain ⟨g0, -⟩ := HAT.out _ HR1.out.rd.row
 have k0 := HR1.out.rd.blk.cell 0
 simp at k0
 have hb2 := (Below.refl w1.heap.size w1).alloc (Nat.le_refl _) (.cells #[.int .i64 3, .int .u8 0, .string ⟨#[]⟩, .int .i64 0, .slice none 0 0] 32)
 have HS2 : Hid (VvS m (some ⟨ba, oa, none⟩) l c u W V rb w #[.int .i64 3, .int .u8 0, .string ⟨#[]⟩, .int .i64 0, .slice none 0 0] (w1.alloc (.cells #[.int .i64 3, .int .u8 0, .string ⟨#[]⟩, .int .i64 0, .slice none 0 0] 32))) := by
  refine ⟨(Rk.of_below HB1.out).later HB1.out.size hb2, HR1.out.later hb2, HZ1.out.later hb2, ?_⟩
  have := Blk.new w1 #[.int .i64 3, .int .u8 0, .string ⟨#[]⟩, .int .i64 0, .slice none 0 0] 32
  rwa [hs1] at this
 clear hb2
 go_upto_region 3 with (fail)
 generalize w1.alloc (.cells #[.int .i64 3, .int .u8 0, .string ⟨#[]⟩, .int .i64 0, .slice none 0 0] 32) = w2 at *
 clear g0 k0 HR1 HB1 HZ1
 obtain ⟨g0, g1, g2, -, -, -, -, -, -, g9⟩ := HAT.out _ HS2.out.rd.rd.row
 have k0 := HS2.out.rd.rd.blk.cell 0
 simp at k0
 have k1 := HS2.out.rd.rd.blk.cell 1
 simp at k1
 have e1 := HS2.out.b.cell 2
 have e2 := HS2.out.b.frozen 2
 simp at e1
 have HSF : Hid (VvS m (some ⟨ba, oa, none⟩) l c u W V rb w #[.int .i64 3, .int .u8 0, .string (bs (atN l i).text), .int .i64 0, .slice none 0 0] (w2.setCell ⟨w.heap.size + 1, 2, none⟩ (.string (bs (atN l i).text)))) := by
  have := HS2.out.setb HR0.out 2 (.string (bs (atN l i).text))
  unfold Hid; simpa using this
 go_upto_region 19 with (fail)
 generalize w2.setCell ⟨w.heap.size + 1, 2, none⟩ (.string (bs (atN l i).text)) = w3 at *
 have HPP := Lib.hid (val_close (xk := 3) (xb := 0) (xt := (atN l i).text) (xp := 0) (xs := .nil) (xB := none) (xc := 0) HSF.out hv1 ⟨Nat.le_refl _, trivial⟩)
 clear HS2 hv1 e1 e2 g0 g1 g2 g9 k0 k1
 have z0 := HSF.out.z.cell 0
 have z1 := HSF.out.z.cell 1
 have z2 := HSF.out.z.cell 2
 have z3 := HSF.out.z.cell 3
 have z4 := HSF.out.z.cell 4
 simp at z0 z1 z2 z3 z4
 have f0 := HSF.out.z.frozen 0
 have f1 := HSF.out.z.frozen 1
 have f2 := HSF.out.z.frozen 2
 have f3 := HSF.out.z.frozen 3
 have f4 := HSF.out.z.frozen 4
 have b0 := HSF.out.b.cell 0
 have b1 := HSF.out.b.cell 1
 have b2 := HSF.out.b.cell 2
 have b3 := HSF.out.b.cell 3
 have b4 := HSF.out.b.cell 4
 simp at b0 b1 b2 b3 b4
 have HP2 := HPP.out
 unfold put5c at HP2
 have HP3 := Lib.hid HP2
 clear HP2 HPP HSF
 go_wp2
 have HP4 := HP3.out
 clear HP3
 refine bodyPost_ret ?_ rfl HP4
 ·simp [results, Try.results32, go_sem]
  go_simp
  all_goals first | rfl | exact ⟨rfl, rfl⟩
def RepC (A : Option Addr) (l : List Nd) (c m ba oa : Nat) (V : Wd) (i : Nat) : Prop := ∀ (rb : Nat) (u : Value) (W : Wd) (a b r : Nat) (xs : List Vl) (w : World), Rdr rb A l c u W V m w -> W <+: V -> a <= b -> b <= W.length -> r <= 1 -> ((List.range ((atN l i).hi + 1 - (atN l i).lo).toNat).flatMap fun t => rtE (EN l (atN l i).a.toNat) ((atN l i).lo.toNat + t) (sgW W a b))[r]? = some xs ->
 Calls Try.prog 50 #[.pointer (some ⟨rb, 0, none⟩), .pointer (some ⟨ba, oa + i * 10, none⟩), .int .i64 (a : Int), .int .i64 (b : Int), .int .i64 (r : Int)] w (KsP m l V xs w)
theorem map_get {α β : Type} {f : α -> β} {L : List α} {r : Nat} {v : β} (h : (L.map f)[r]? = some v) : ∃ x, L[r]? = some x /\ f x = v := by
 rw [List.getElem?_map] at h
 cases e : L[r]? with
 | none => rw [e] at h; cases h
 | some x => rw [e] at h; exact ⟨x, rfl, by simpa using h⟩
theorem kids_set {H : Nat} {w2 w5 : World} {ys : List Vl} {k : Int} {A : Option Addr} {c : Nat} (h : VRp (fun b => w2.heap.size <= b) w5 A 0 (Vs.of ys)) (hc : ys.length <= c) (hH : H + 1 < w2.heap.size) (x : Value) :
 VOk (fun b => H <= b /\ b ≠ H) (w5.setCell ⟨H + 1, 4, none⟩ x) ⟨⟨k, 0, [], 0, Vs.of ys⟩, A, c⟩ :=
 vok_set (VOk.deep (H2 := w2.heap.size) ⟨by show (Vs.of ys).len <= c; rw [Vs.of_len]; exact hc, h⟩ hH)
theorem value_star {l : List Nd} {c m ba oa : Nat} {V : Wd} {i : Nat} (hF : Form l) (hi : i < l.length) (hk : (atN l i).kind = 6) (hn : V.length <= 900) (hEi : EndsC (some ⟨ba, oa, none⟩) l c m V i) (hE : EndsC (some ⟨ba, oa, none⟩) l c m V (atN l i).a.toNat) (hV : ValC (some ⟨ba, oa, none⟩) l c m V (atN l i).a.toNat) : ValC (some ⟨ba, oa, none⟩) l c m V i := by
 intro rb u W a b r v w hr hW hab hb hrk hv
 rw [EN_k6 hF hi hk] at hv
 obtain ⟨ys, hys, hv1⟩ := map_get hv
 have HV1 := Lib.hid hv1
 have HCC := Lib.hid (fun (w' : World) (h : Rdr rb (some ⟨ba, oa, none⟩) l c u W V m w') => cstarKids_any hF hi hk hEi hE hV rb u W a b r ys w' h hW hn hab hb hrk hys)
 clear hv hys hv1 hEi hE hV
 have hb1 := (Below.refl w.heap.size w).alloc (Nat.le_refl _) (.cells #[.int .i64 0, .int .u8 0, .string ⟨#[]⟩, .int .i64 0, .slice none 0 0] 32)
 have HR1 := Lib.hid (hr.later hb1)
 have HB1 := Lib.hid hb1
 have HZ1 := Lib.hid (Blk.new w #[.int .i64 0, .int .u8 0, .string ⟨#[]⟩, .int .i64 0, .slice none 0 0] 32)
 have HR0 := Lib.hid hr
 have HI := Lib.hid hi
 have HAT : Hid (∀ w', NRow w' (some ⟨ba, oa, none⟩) l -> At10 w' ba (oa + i * 10) (atN l i)) := fun w' h => h.at hi rfl
 unfold At10 at HAT
 rw [hk] at HAT
 have hil : (i : Int) < (l.length : Int) := by omega
 have hi0 : ¬ (i : Int) < 0 := by omega
 have hs1 : (w.alloc (.cells #[.int .i64 0, .int .u8 0, .string ⟨#[]⟩, .int .i64 0, .slice none 0 0] 32)).heap.size = w.heap.size + 1 := by simp
 clear hr hb1 hF hi
 go_enter Try.func32, Try.ntmps32
 go_upto_region 1 with (fail)
 generalize w.alloc (.cells #[.int .i64 0, .int .u8 0, .string ⟨#[]⟩, .int .i64 0, .slice none 0 0] 32) = w1 at *
 obtain ⟨g0, -⟩ := HAT.out _ HR1.out.rd.row
 have k0 := HR1.out.rd.blk.cell 0
 simp at k0
 have hb2 := (Below.refl w1.heap.size w1).alloc (Nat.le_refl _) (.cells #[.int .i64 6, .int .u8 0, .string ⟨#[]⟩, .int .i64 0, .slice none 0 0] 32)
 have HS2 : Hid (VvS m (some ⟨ba, oa, none⟩) l c u W V rb w #[.int .i64 6, .int .u8 0, .string ⟨#[]⟩, .int .i64 0, .slice none 0 0] (w1.alloc (.cells #[.int .i64 6, .int .u8 0, .string ⟨#[]⟩, .int .i64 0, .slice none 0 0] 32))) := by
  refine ⟨(Rk.of_below HB1.out).later HB1.out.size hb2, HR1.out.later hb2, HZ1.out.later hb2, ?_⟩
  have := Blk.new w1 #[.int .i64 6, .int .u8 0, .string ⟨#[]⟩, .int .i64 0, .slice none 0 0] 32
  rwa [hs1] at this
 clear hb2
 go_upto_region 3 with (fail)
 generalize w1.alloc (.cells #[.int .i64 6, .int .u8 0, .string ⟨#[]⟩, .int .i64 0, .slice none 0 0] 32) = w2 at *
 clear g0 k0 HR1 HB1 HZ1
 obtain ⟨g0, g1, g2, -, -, -, -, -, -, g9⟩ := HAT.out _ HS2.out.rd.rd.row
 have k0 := HS2.out.rd.rd.blk.cell 0
 simp at k0
 have k1 := HS2.out.rd.rd.blk.cell 1
 simp at k1
 have HC := Lib.hid (HCC.out w2 HS2.out.rd)
 clear HCC
 go_wp2_with fail
 refine HC.out.mono ?_; rintro e w5 ⟨v5, rfl, ⟨A5, c5, rfl, hc5, hvr5⟩, hrk5⟩
 have HS5 := Lib.hid (HS2.out.call hrk5)
 have HOK := Lib.hid (fun x => kids_set (H := w.heap.size) (k := 6) hvr5 hc5 (HS2.out.b.lt) x)
 clear hrk5 hvr5 hc5 HC HS2 g0 g1 g2 g9 k0 k1
 have e1 := HS5.out.b.cell 4
 have e2 := HS5.out.b.frozen 4
 simp at e1
 have HSF : Hid (VvS m (some ⟨ba, oa, none⟩) l c u W V rb w #[.int .i64 6, .int .u8 0, .string ⟨#[]⟩, .int .i64 0, .slice A5 ys.length c5] (w5.setCell ⟨w.heap.size + 1, 4, none⟩ (.slice A5 ys.length c5))) := by
  have := HS5.out.setb HR0.out 4 (.slice A5 ys.length c5)
  unfold Hid; simpa using this
 have HPP := Lib.hid (val_close (xk := 6) (xb := 0) (xt := []) (xp := 0) (xs := Vs.of ys) (xB := A5) (xc := c5) HSF.out HV1.out (HOK.out _))
 rw [Vs.of_len] at HPP
 clear HS5 HOK HV1
 go_upto_region 19 with (fail)
 generalize w5.setCell ⟨w.heap.size + 1, 4, none⟩ (.slice A5 ys.length c5) = w6 at *
 clear e1 e2
 have z0 := HSF.out.z.cell 0
 have z1 := HSF.out.z.cell 1
 have z2 := HSF.out.z.cell 2
 have z3 := HSF.out.z.cell 3
 have z4 := HSF.out.z.cell 4
 simp at z0 z1 z2 z3 z4
 have f0 := HSF.out.z.frozen 0
 have f1 := HSF.out.z.frozen 1
 have f2 := HSF.out.z.frozen 2
 have f3 := HSF.out.z.frozen 3
 have f4 := HSF.out.z.frozen 4
 have b0 := HSF.out.b.cell 0
 have b1 := HSF.out.b.cell 1
 have b2 := HSF.out.b.cell 2
 have b3 := HSF.out.b.cell 3
 have b4 := HSF.out.b.cell 4
 simp at b0 b1 b2 b3 b4
 have HP2 := HPP.out
 unfold put5c at HP2
 have HP3 := Lib.hid HP2
 clear HP2 HPP HSF
 go_wp2
 have HP4 := HP3.out
 clear HP3
 refine bodyPost_ret ?_ rfl HP4
 ·simp [results, Try.results32, go_sem]
  go_simp
  all_goals first | rfl | exact ⟨rfl, rfl⟩
theorem value_rep {l : List Nd} {c m ba oa : Nat} {V : Wd} {i : Nat} (hF : Form l) (hi : i < l.length) (hk : (atN l i).kind = 7) (hR : RepC (some ⟨ba, oa, none⟩) l c m ba oa V i) : ValC (some ⟨ba, oa, none⟩) l c m V i := by
 intro rb u W a b r v w hr hW hab hb hrk hv
 rw [EN_k7 hF hi hk] at hv
 obtain ⟨ys, hys, hv1⟩ := map_get hv
 have HV1 := Lib.hid hv1
 have HCC := Lib.hid (fun (w' : World) (h : Rdr rb (some ⟨ba, oa, none⟩) l c u W V m w') => hR rb u W a b r ys w' h hW hab hb hrk hys)
 clear hv hys hv1 hR
 have hb1 := (Below.refl w.heap.size w).alloc (Nat.le_refl _) (.cells #[.int .i64 0, .int .u8 0, .string ⟨#[]⟩, .int .i64 0, .slice none 0 0] 32)
 have HR1 := Lib.hid (hr.later hb1)
 have HB1 := Lib.hid hb1
 have HZ1 := Lib.hid (Blk.new w #[.int .i64 0, .int .u8 0, .string ⟨#[]⟩, .int .i64 0, .slice none 0 0] 32)
 have HR0 := Lib.hid hr
 have HI := Lib.hid hi
 have HAT : Hid (∀ w', NRow w' (some ⟨ba, oa, none⟩) l -> At10 w' ba (oa + i * 10) (atN l i)) := fun w' h => h.at hi rfl
 unfold At10 at HAT
 rw [hk] at HAT
 have hil : (i : Int) < (l.length : Int) := by omega
 have hi0 : ¬ (i : Int) < 0 := by omega
 have hs1 : (w.alloc (.cells #[.int .i64 0, .int .u8 0, .string ⟨#[]⟩, .int .i64 0, .slice none 0 0] 32)).heap.size = w.heap.size + 1 := by simp
 clear hr hb1 hF hi
 go_enter Try.func32, Try.ntmps32
 go_upto_region 1 with (fail)
 generalize w.alloc (.cells #[.int .i64 0, .int .u8 0, .string ⟨#[]⟩, .int .i64 0, .slice none 0 0] 32) = w1 at *
 obtain ⟨g0, -⟩ := HAT.out _ HR1.out.rd.row
 have k0 := HR1.out.rd.blk.cell 0
 simp at k0
 have hb2 := (Below.refl w1.heap.size w1).alloc (Nat.le_refl _) (.cells #[.int .i64 7, .int .u8 0, .string ⟨#[]⟩, .int .i64 0, .slice none 0 0] 32)
 have HS2 : Hid (VvS m (some ⟨ba, oa, none⟩) l c u W V rb w #[.int .i64 7, .int .u8 0, .string ⟨#[]⟩, .int .i64 0, .slice none 0 0] (w1.alloc (.cells #[.int .i64 7, .int .u8 0, .string ⟨#[]⟩, .int .i64 0, .slice none 0 0] 32))) := by
  refine ⟨(Rk.of_below HB1.out).later HB1.out.size hb2, HR1.out.later hb2, HZ1.out.later hb2, ?_⟩
  have := Blk.new w1 #[.int .i64 7, .int .u8 0, .string ⟨#[]⟩, .int .i64 0, .slice none 0 0] 32
  rwa [hs1] at this
 clear hb2
 go_upto_region 3 with (fail)
 generalize w1.alloc (.cells #[.int .i64 7, .int .u8 0, .string ⟨#[]⟩, .int .i64 0, .slice none 0 0] 32) = w2 at *
 clear g0 k0 HR1 HB1 HZ1
 obtain ⟨g0, g1, g2, -, -, -, -, -, -, g9⟩ := HAT.out _ HS2.out.rd.rd.row
 have k0 := HS2.out.rd.rd.blk.cell 0
 simp at k0
 have k1 := HS2.out.rd.rd.blk.cell 1
 simp at k1
 have HC := Lib.hid (HCC.out w2 HS2.out.rd)
 clear HCC
 go_wp2_with fail
 refine HC.out.mono ?_; rintro e w5 ⟨v5, rfl, ⟨A5, c5, rfl, hc5, hvr5⟩, hrk5⟩
 have HS5 := Lib.hid (HS2.out.call hrk5)
 have HOK := Lib.hid (fun x => kids_set (H := w.heap.size) (k := 7) hvr5 hc5 (HS2.out.b.lt) x)
 clear hrk5 hvr5 hc5 HC HS2 g0 g1 g2 g9 k0 k1
 have e1 := HS5.out.b.cell 4
 have e2 := HS5.out.b.frozen 4
 simp at e1
 have HSF : Hid (VvS m (some ⟨ba, oa, none⟩) l c u W V rb w #[.int .i64 7, .int .u8 0, .string ⟨#[]⟩, .int .i64 0, .slice A5 ys.length c5] (w5.setCell ⟨w.heap.size + 1, 4, none⟩ (.slice A5 ys.length c5))) := by
  have := HS5.out.setb HR0.out 4 (.slice A5 ys.length c5)
  unfold Hid; simpa using this
 have HPP := Lib.hid (val_close (xk := 7) (xb := 0) (xt := []) (xp := 0) (xs := Vs.of ys) (xB := A5) (xc := c5) HSF.out HV1.out (HOK.out _))
 rw [Vs.of_len] at HPP
 clear HS5 HOK HV1
 go_upto_region 19 with (fail)
 generalize w5.setCell ⟨w.heap.size + 1, 4, none⟩ (.slice A5 ys.length c5) = w6 at *
 clear e1 e2
 have z0 := HSF.out.z.cell 0
 have z1 := HSF.out.z.cell 1
 have z2 := HSF.out.z.cell 2
 have z3 := HSF.out.z.cell 3
 have z4 := HSF.out.z.cell 4
 simp at z0 z1 z2 z3 z4
 have f0 := HSF.out.z.frozen 0
 have f1 := HSF.out.z.frozen 1
 have f2 := HSF.out.z.frozen 2
 have f3 := HSF.out.z.frozen 3
 have f4 := HSF.out.z.frozen 4
 have b0 := HSF.out.b.cell 0
 have b1 := HSF.out.b.cell 1
 have b2 := HSF.out.b.cell 2
 have b3 := HSF.out.b.cell 3
 have b4 := HSF.out.b.cell 4
 simp at b0 b1 b2 b3 b4
 have HP2 := HPP.out
 unfold put5c at HP2
 have HP3 := Lib.hid HP2
 clear HP2 HPP HSF
 go_wp2
 have HP4 := HP3.out
 clear HP3
 refine bodyPost_ret ?_ rfl HP4
 ·simp [results, Try.results32, go_sem]
  go_simp
  all_goals first | rfl | exact ⟨rfl, rfl⟩
theorem VvS.put5 {m : Nat} {A : Option Addr} {l : List Nd} {c : Nat} {u : Value} {W V : Wd} {rb : Nat} {w0 w : World} {d0 d1 d2 d3 d4 : Value} (hr : Rdr rb A l c u W V m w0) (h : VvS m A l c u W V rb w0 #[d0, d1, d2, d3, d4] w) (c0 c1 c2 c3 c4 : Value) : VvS m A l c u W V rb w0 #[c0, c1, c2, c3, c4] (put5c w (w0.heap.size + 1) c0 c1 c2 c3 c4) := by
 have h4 := ((((h.setb hr 0 c0).setb hr 1 c1).setb hr 2 c2).setb hr 3 c3).setb hr 4 c4
 unfold put5c
 simpa using h4
theorem vok_put5 {p : Nat -> Prop} {w : World} {g : Nat} {c0 c1 c2 c3 c4 : Value} {y : VCl} (h : VOk (fun b => p b /\ b ≠ g) w y) : VOk p (put5c w g c0 c1 c2 c3 c4) y := h.turn (by rw [put5c_size]; exact Nat.le_refl _) fun b hb => put5c_other hb
theorem value_or {l : List Nd} {c m ba oa : Nat} {V : Wd} {i : Nat} (hF : Form l) (hi : i < l.length) (hk : (atN l i).kind = 5) (hP : PicC (some ⟨ba, oa, none⟩) l c m V i) : ValC (some ⟨ba, oa, none⟩) l c m V i := by
 intro rb u W a b r v w hr hW hab hb hrk hv
 have HV1 := Lib.hid hv
 have HCC := Lib.hid (fun (w' : World) (h : Rdr rb (some ⟨ba, oa, none⟩) l c u W V m w') => hP rb u W a b r w' h hW hab hb hrk)
 clear hv hP
 have hb1 := (Below.refl w.heap.size w).alloc (Nat.le_refl _) (.cells #[.int .i64 0, .int .u8 0, .string ⟨#[]⟩, .int .i64 0, .slice none 0 0] 32)
 have HR1 := Lib.hid (hr.later hb1)
 have HB1 := Lib.hid hb1
 have HZ1 := Lib.hid (Blk.new w #[.int .i64 0, .int .u8 0, .string ⟨#[]⟩, .int .i64 0, .slice none 0 0] 32)
 have HR0 := Lib.hid hr
 have HI := Lib.hid hi
 have HAT : Hid (∀ w', NRow w' (some ⟨ba, oa, none⟩) l -> At10 w' ba (oa + i * 10) (atN l i)) := fun w' h => h.at hi rfl
 unfold At10 at HAT
 rw [hk] at HAT
 have hil : (i : Int) < (l.length : Int) := by omega
 have hi0 : ¬ (i : Int) < 0 := by omega
 have hs1 : (w.alloc (.cells #[.int .i64 0, .int .u8 0, .string ⟨#[]⟩, .int .i64 0, .slice none 0 0] 32)).heap.size = w.heap.size + 1 := by simp
 clear hr hb1 hF hi
 go_enter Try.func32, Try.ntmps32
 go_upto_region 1 with (fail)
 generalize w.alloc (.cells #[.int .i64 0, .int .u8 0, .string ⟨#[]⟩, .int .i64 0, .slice none 0 0] 32) = w1 at *
 obtain ⟨g0, -⟩ := HAT.out _ HR1.out.rd.row
 have k0 := HR1.out.rd.blk.cell 0
 simp at k0
 have hb2 := (Below.refl w1.heap.size w1).alloc (Nat.le_refl _) (.cells #[.int .i64 5, .int .u8 0, .string ⟨#[]⟩, .int .i64 0, .slice none 0 0] 32)
 have HS2 : Hid (VvS m (some ⟨ba, oa, none⟩) l c u W V rb w #[.int .i64 5, .int .u8 0, .string ⟨#[]⟩, .int .i64 0, .slice none 0 0] (w1.alloc (.cells #[.int .i64 5, .int .u8 0, .string ⟨#[]⟩, .int .i64 0, .slice none 0 0] 32))) := by
  refine ⟨(Rk.of_below HB1.out).later HB1.out.size hb2, HR1.out.later hb2, HZ1.out.later hb2, ?_⟩
  have := Blk.new w1 #[.int .i64 5, .int .u8 0, .string ⟨#[]⟩, .int .i64 0, .slice none 0 0] 32
  rwa [hs1] at this
 clear hb2
 go_upto_region 3 with (fail)
 generalize w1.alloc (.cells #[.int .i64 5, .int .u8 0, .string ⟨#[]⟩, .int .i64 0, .slice none 0 0] 32) = w2 at *
 clear g0 k0 HR1 HB1 HZ1
 obtain ⟨g0, g1, g2, -, -, -, -, -, -, g9⟩ := HAT.out _ HS2.out.rd.rd.row
 have k0 := HS2.out.rd.rd.blk.cell 0
 simp at k0
 have k1 := HS2.out.rd.rd.blk.cell 1
 simp at k1
 have HC := Lib.hid (HCC.out w2 HS2.out.rd)
 clear HCC
 have HLT : Hid (w.heap.size + 1 < w2.heap.size) := HS2.out.b.lt
 go_wp2_with fail
 refine HC.out.mono ?_; rintro e w6 ⟨hrk5, ⟨x6, v5, hv5, hx5, rfl, hok5⟩ | ⟨hle, -⟩⟩
 ·have hvv : v5 = v := by rw [HV1.out] at hv5; cases hv5; rfl
  have HX6 : Hid (x6.v = v) := hx5.trans hvv
  have HOK := Lib.hid hok5
  have HS6 := Lib.hid (HS2.out.call hrk5)
  clear hrk5 hv5 hx5 hok5 hvv HC HS2 HV1
  obtain ⟨⟨xk, xb, xt, xp, xs⟩, xB, xc⟩ := x6
  obtain ⟨w7, hw7⟩ : ∃ w7, put5c w6 (w.heap.size + 1) (.int .i64 xk) (.int .u8 ((xb.toNat : Nat) : Int)) (.string (bs xt)) (.int .i64 xp) (.slice xB xs.len xc) = w7 := ⟨_, rfl⟩
  have hsf := HS6.out.put5 HR0.out (.int .i64 xk) (.int .u8 ((xb.toNat : Nat) : Int)) (.string (bs xt)) (.int .i64 xp) (.slice xB xs.len xc)
  have hok7 := vok_put5 (c0 := .int .i64 xk) (c1 := .int .u8 ((xb.toNat : Nat) : Int)) (c2 := .string (bs xt)) (c3 := .int .i64 xp) (c4 := .slice xB xs.len xc) (HOK.out.deep HLT.out)
  rw [hw7] at hsf hok7
  have HPP := Lib.hid (val_close hsf HX6.out hok7)
  have HSF := Lib.hid hsf
  clear hsf hok7 HOK HX6
  simp only [VCl.cells, vlC]
  have e0 := HS6.out.b.cell 0
  have e1 := HS6.out.b.cell 1
  have e2 := HS6.out.b.cell 2
  have e3 := HS6.out.b.cell 3
  have e4 := HS6.out.b.cell 4
  simp at e0 e1 e2 e3 e4
  have d0 := HS6.out.b.frozen 0
  have d1 := HS6.out.b.frozen 1
  have d2 := HS6.out.b.frozen 2
  have d3 := HS6.out.b.frozen 3
  have d4 := HS6.out.b.frozen 4
  unfold put5c at hw7
  have HW7 := Lib.hid hw7
  clear hw7 HS6 g0 g1 g2 g9 k0 k1
  go_upto_region 19 with (fail)
  rw [HW7.out]
  clear HW7 e0 e1 e2 e3 e4 d0 d1 d2 d3 d4
  have z0 := HSF.out.z.cell 0
  have z1 := HSF.out.z.cell 1
  have z2 := HSF.out.z.cell 2
  have z3 := HSF.out.z.cell 3
  have z4 := HSF.out.z.cell 4
  simp at z0 z1 z2 z3 z4
  have f0 := HSF.out.z.frozen 0
  have f1 := HSF.out.z.frozen 1
  have f2 := HSF.out.z.frozen 2
  have f3 := HSF.out.z.frozen 3
  have f4 := HSF.out.z.frozen 4
  have b0 := HSF.out.b.cell 0
  have b1 := HSF.out.b.cell 1
  have b2 := HSF.out.b.cell 2
  have b3 := HSF.out.b.cell 3
  have b4 := HSF.out.b.cell 4
  simp at b0 b1 b2 b3 b4
  have HP2 := HPP.out
  unfold put5c at HP2
  have HP3 := Lib.hid HP2
  clear HP2 HPP HSF
  go_wp2
  have HP4 := HP3.out
  clear HP3
  refine bodyPost_ret ?_ rfl HP4
  ·simp [results, Try.results32, go_sem]
   go_simp
   all_goals first | rfl | exact ⟨rfl, rfl⟩
 ·have := (List.getElem?_eq_some_iff.1 HV1.out).1
  omega
theorem value_seq {l : List Nd} {c m ba oa : Nat} {V : Wd} {i : Nat} (hF : Form l) (hl : l.length <= 4096) (hi : i < l.length) (hk : (atN l i).kind = 4) (hn : V.length <= 900) (hE : ∀ j, j < i -> EndsC (some ⟨ba, oa, none⟩) l c m V j) (hRd : ∀ j, j < i -> ReadC (some ⟨ba, oa, none⟩) l c m V j) (hV : ∀ j, j < i -> ValC (some ⟨ba, oa, none⟩) l c m V j) : ValC (some ⟨ba, oa, none⟩) l c m V i := by
 intro rb u W a b r v w hr hW hab hb hrk hv
 rw [EN_k4 hF hi hk] at hv
 obtain ⟨ys, hys, hv1⟩ := map_get hv
 have hyl : ys.length = (memN l i).length := by
  have := (sqE_sound (List.mem_of_getElem? hys)).1
  rw [this, List.length_map, List.length_reverse]
 have hml := memN_len hF i hi
 have HV1 := Lib.hid hv1
 have HYL := Lib.hid hyl
 have HML : Hid ((memN l i).length <= 100000) := by unfold Hid; omega
 have HCC := Lib.hid (fun (w' : World) (h : Rdr rb (some ⟨ba, oa, none⟩) l c u W V m w') => crow_any hF hl hi hk hE hRd hV rb u W a b r ys w' h hW hn hab hb hrk hys)
 have HNE := Lib.hid (nest_any (c := c) (m := m) (ba := ba) (oa := oa) hF i hi)
 clear hv hys hv1 hE hRd hV hyl hml
 have hb1 := (Below.refl w.heap.size w).alloc (Nat.le_refl _) (.cells #[.int .i64 0, .int .u8 0, .string ⟨#[]⟩, .int .i64 0, .slice none 0 0] 32)
 have HR1 := Lib.hid (hr.later hb1)
 have HB1 := Lib.hid hb1
 have HZ1 := Lib.hid (Blk.new w #[.int .i64 0, .int .u8 0, .string ⟨#[]⟩, .int .i64 0, .slice none 0 0] 32)
 have HR0 := Lib.hid hr
 have HI := Lib.hid hi
 have HAT : Hid (∀ w', NRow w' (some ⟨ba, oa, none⟩) l -> At10 w' ba (oa + i * 10) (atN l i)) := fun w' h => h.at hi rfl
 unfold At10 at HAT
 rw [hk] at HAT
 have hil : (i : Int) < (l.length : Int) := by omega
 have hi0 : ¬ (i : Int) < 0 := by omega
 have hs1 : (w.alloc (.cells #[.int .i64 0, .int .u8 0, .string ⟨#[]⟩, .int .i64 0, .slice none 0 0] 32)).heap.size = w.heap.size + 1 := by simp
 clear hr hb1 hF hi
 go_enter Try.func32, Try.ntmps32
 go_upto_region 1 with (fail)
 generalize w.alloc (.cells #[.int .i64 0, .int .u8 0, .string ⟨#[]⟩, .int .i64 0, .slice none 0 0] 32) = w1 at *
 obtain ⟨g0, -⟩ := HAT.out _ HR1.out.rd.row
 have k0 := HR1.out.rd.blk.cell 0
 simp at k0
 have hb2 := (Below.refl w1.heap.size w1).alloc (Nat.le_refl _) (.cells #[.int .i64 4, .int .u8 0, .string ⟨#[]⟩, .int .i64 0, .slice none 0 0] 32)
 have HS2 : Hid (VvS m (some ⟨ba, oa, none⟩) l c u W V rb w #[.int .i64 4, .int .u8 0, .string ⟨#[]⟩, .int .i64 0, .slice none 0 0] (w1.alloc (.cells #[.int .i64 4, .int .u8 0, .string ⟨#[]⟩, .int .i64 0, .slice none 0 0] 32))) := by
  refine ⟨(Rk.of_below HB1.out).later HB1.out.size hb2, HR1.out.later hb2, HZ1.out.later hb2, ?_⟩
  have := Blk.new w1 #[.int .i64 4, .int .u8 0, .string ⟨#[]⟩, .int .i64 0, .slice none 0 0] 32
  rwa [hs1] at this
 clear hb2
 go_upto_region 3 with (fail)
 generalize w1.alloc (.cells #[.int .i64 4, .int .u8 0, .string ⟨#[]⟩, .int .i64 0, .slice none 0 0] 32) = w2 at *
 clear g0 k0 HR1 HB1 HZ1
 obtain ⟨g0, g1, g2, -, -, -, -, -, -, g9⟩ := HAT.out _ HS2.out.rd.rd.row
 have k0 := HS2.out.rd.rd.blk.cell 0
 simp at k0
 have k1 := HS2.out.rd.rd.blk.cell 1
 simp at k1
 have HC := Lib.hid (HCC.out w2 HS2.out.rd)
 clear HCC
 have HLT : Hid (w.heap.size + 1 < w2.heap.size) := HS2.out.b.lt
 go_wp2_with fail
 refine HC.out.mono ?_; rintro e w5 ⟨v5, rfl, hnw5, hrk5⟩
 obtain ⟨A5, c5, L, rfl, hc5, hL, hck, hcl⟩ := hnw5.rows
 have hLl : L.length = (memN l i).length := by rw [<- HYL.out, <- hL, List.length_map]
 have HS5 := Lib.hid (HS2.out.call hrk5)
 have HN5 := Lib.hid (HNE.out rb u W (fun b => w2.heap.size <= b) A5 L c5 w5 HS5.out.rd.rd (fun b hb => Nat.le_trans hrk5.size hb) hcl hck (by omega) hc5 (by have := HML.out; omega))
 have HNV : Hid (nestN l i ((L.map (·.v)).take (memN l i).length) = v) := by
  unfold Hid; rw [hL, <- HYL.out, List.take_length]; exact HV1.out
 clear hnw5 hrk5 hc5 hL hck hcl hLl HC HS2 HV1 HYL HML HNE
 go_wp2_with fail
 refine HN5.out.mono ?_; rintro e w6 ⟨x6, A6, c6, rfl, hx5, hok5, -, -, -, hbel⟩
 have HX6 : Hid (x6.v = v) := hx5.trans HNV.out
 have HOK := Lib.hid hok5
 have HS6 := Lib.hid (HS5.out.later hbel)
 clear hbel hx5 hok5 HN5 HNV HS5
 generalize (L.drop (memN l i).length).length = ld at *
 obtain ⟨⟨xk, xb, xt, xp, xs⟩, xB, xc⟩ := x6
 obtain ⟨w7, hw7⟩ : ∃ w7, put5c w6 (w.heap.size + 1) (.int .i64 xk) (.int .u8 ((xb.toNat : Nat) : Int)) (.string (bs xt)) (.int .i64 xp) (.slice xB xs.len xc) = w7 := ⟨_, rfl⟩
 have hsf := HS6.out.put5 HR0.out (.int .i64 xk) (.int .u8 ((xb.toNat : Nat) : Int)) (.string (bs xt)) (.int .i64 xp) (.slice xB xs.len xc)
 have hok7 := vok_put5 (c0 := .int .i64 xk) (c1 := .int .u8 ((xb.toNat : Nat) : Int)) (c2 := .string (bs xt)) (c3 := .int .i64 xp) (c4 := .slice xB xs.len xc) (HOK.out.deep HLT.out)
 rw [hw7] at hsf hok7
 have HPP := Lib.hid (val_close hsf HX6.out hok7)
 have HSF := Lib.hid hsf
 clear hsf hok7 HOK HX6
 simp only [VCl.cells, vlC]
 have e0 := HS6.out.b.cell 0
 have e1 := HS6.out.b.cell 1
 have e2 := HS6.out.b.cell 2
 have e3 := HS6.out.b.cell 3
 have e4 := HS6.out.b.cell 4
 simp at e0 e1 e2 e3 e4
 have d0 := HS6.out.b.frozen 0
 have d1 := HS6.out.b.frozen 1
 have d2 := HS6.out.b.frozen 2
 have d3 := HS6.out.b.frozen 3
 have d4 := HS6.out.b.frozen 4
 unfold put5c at hw7
 have HW7 := Lib.hid hw7
 clear hw7 HS6 g0 g1 g2 g9 k0 k1
 go_upto_region 19 with (fail)
 rw [HW7.out]
 clear HW7 e0 e1 e2 e3 e4 d0 d1 d2 d3 d4
 have z0 := HSF.out.z.cell 0
 have z1 := HSF.out.z.cell 1
 have z2 := HSF.out.z.cell 2
 have z3 := HSF.out.z.cell 3
 have z4 := HSF.out.z.cell 4
 simp at z0 z1 z2 z3 z4
 have f0 := HSF.out.z.frozen 0
 have f1 := HSF.out.z.frozen 1
 have f2 := HSF.out.z.frozen 2
 have f3 := HSF.out.z.frozen 3
 have f4 := HSF.out.z.frozen 4
 have b0 := HSF.out.b.cell 0
 have b1 := HSF.out.b.cell 1
 have b2 := HSF.out.b.cell 2
 have b3 := HSF.out.b.cell 3
 have b4 := HSF.out.b.cell 4
 simp at b0 b1 b2 b3 b4
 have HP2 := HPP.out
 unfold put5c at HP2
 have HP3 := Lib.hid HP2
 clear HP2 HPP HSF
 go_wp2
 have HP4 := HP3.out
 clear HP3
 refine bodyPost_ret ?_ rfl HP4
 ·simp [results, Try.results32, go_sem]
  go_simp
  all_goals first | rfl | exact ⟨rfl, rfl⟩
theorem frame_math {l : List Nd} {i : Nat} {K : Int} {h : Nat} (hF : Form l) (hi : i < l.length) (hk : (atN l i).kind = K) (hK : K = 8 /\ h = 1 \/ K = 9 /\ h = 2) {W : Wd} {a b r : Nat} {v : Vl} (hab : a <= b) (hb : b <= W.length) (hv : (EN l i (sgW W a b))[r]? = some v) :
 a + h <= b /\ ∃ x, (EN l (atN l i).a.toNat (sgW (W.take b) (a + h) b))[r]? = some x /\ (⟨K, 0, [], 0, Vs.of [x]⟩ : Vl) = v := by
 rcases hK with ⟨rfl, rfl⟩ | ⟨rfl, rfl⟩
 ·rw [EN_k8 hF hi hk] at hv
  split at hv
  case isTrue hc =>
   have h1 := hc.1
   rw [sgW_len hb] at h1
   obtain ⟨x, h2, h3⟩ := map_get hv
   rw [sgW_drop] at h2
   exact ⟨by omega, x, by rw [sgW_of_take (Nat.le_refl _)]; exact h2, h3⟩
  case isFalse hc => simp at hv
 ·rw [EN_k9 hF hi hk] at hv
  split at hv
  case isTrue hc =>
   have h1 := hc.1
   rw [sgW_len hb] at h1
   obtain ⟨x, h2, h3⟩ := map_get hv
   rw [sgW_drop] at h2
   exact ⟨by omega, x, by rw [sgW_of_take (Nat.le_refl _)]; exact h2, h3⟩
  case isFalse hc => simp at hv
def UtV (A : Option Addr) (l : List Nd) (c : Nat) (W V : Wd) (m : Nat) (v : Value) (w : World) : Prop := ∃ rb u, v = .pointer (some ⟨rb, 0, none⟩) /\ Rdr rb A l c u W V m w
theorem UtV.grow (A : Option Addr) (l : List Nd) (c : Nat) (W V : Wd) (m : Nat) : ∀ v w w', UtV A l c W V m v w -> RkR m l V w w' -> UtV A l c W V m v w' := fun v w w' ⟨rb, u, h1, h2⟩ hb => ⟨rb, u, h1, h2.rk hb⟩
def VaV (H : Nat) (A : Option Addr) (l : List Nd) (c : Nat) (u : Value) (W V : Wd) (m rb : Nat) (vx : Vl) (v : Value) (w : World) : Prop := ∃ y : VCl, v = .agg y.cells /\ y.v = vx /\ VOk (fun b => H + 2 <= b) w y /\ H + 2 <= w.heap.size /\ Rdr rb A l c u W V m w
theorem VaV.grow (H : Nat) (A : Option Addr) (l : List Nd) (c : Nat) (u : Value) (W V : Wd) (m rb : Nat) (vx : Vl) : ∀ v w w', VaV H A l c u W V m rb vx v w -> RkR m l V w w' -> VaV H A l c u W V m rb vx v w' := fun v w w' ⟨y, h1, h2, h3, h4, h5⟩ hb => ⟨y, h1, h2, ⟨h3.1, h3.2.kc (Rk.kc hb ⟨_, h5.kept⟩)⟩, Nat.le_trans h4 hb.size, h5.rk hb⟩
def KdV (H : Nat) (A : Option Addr) (l : List Nd) (c : Nat) (u : Value) (W V : Wd) (m rb : Nat) (k : Int) (vx : Vl) (v : Value) (w : World) : Prop := ∃ g, v = .slice (some ⟨g, 0, none⟩) 1 1 /\ VOk (fun b => H + 2 <= b) w ⟨⟨k, 0, [], 0, Vs.of [vx]⟩, some ⟨g, 0, none⟩, 1⟩ /\ Rdr rb A l c u W V m w
theorem KdV.grow (H : Nat) (A : Option Addr) (l : List Nd) (c : Nat) (u : Value) (W V : Wd) (m rb : Nat) (k : Int) (vx : Vl) : ∀ v w w', KdV H A l c u W V m rb k vx v w -> RkR m l V w w' -> KdV H A l c u W V m rb k vx v w' := fun v w w' ⟨g, h1, h3, h5⟩ hb => ⟨g, h1, ⟨h3.1, h3.2.kc (Rk.kc hb ⟨_, h5.kept⟩)⟩, h5.rk hb⟩
theorem VaV.kid {H : Nat} {A : Option Addr} {l : List Nd} {c : Nat} {u : Value} {W V : Wd} {m rb : Nat} {k : Int} {vx : Vl} {w : World} {y : VCl} (h2 : y.v = vx) (h3 : VOk (fun b => H + 2 <= b) w y) (h4 : H + 2 <= w.heap.size) (h5 : Rdr rb A l c u W V m w) : KdV H A l c u W V m rb k vx (.slice (some ⟨w.heap.size, 0, none⟩) 1 1) (w.alloc (.cells y.cells 32)) := by
 subst h2
 have hb := (Below.refl w.heap.size w).alloc (Nat.le_refl _) (.cells y.cells 32)
 exact ⟨_, rfl, one_kid hb h3 (Blk.new w _ _) h4, h5.later hb⟩
structure FvS (m : Nat) (A : Option Addr) (l : List Nd) (c : Nat) (u : Value) (W V : Wd) (rb : Nat) (w0 : World) (bv : Array Value) (w : World) : Prop where
 s : VvS m A l c u W V rb w0 bv w
 low : w0.heap.size + 2 <= w.heap.size
theorem FvS.grow {m : Nat} {A : Option Addr} {l : List Nd} {c : Nat} {u : Value} {W V : Wd} {rb : Nat} {w0 w w' : World} {bv : Array Value} (h : FvS m A l c u W V rb w0 bv w) (hr : RkR m l V w w') : FvS m A l c u W V rb w0 bv w' := ⟨h.s.call hr, Nat.le_trans h.low hr.size⟩
theorem value_frame {l : List Nd} {c m ba oa : Nat} {V : Wd} {i : Nat} (hF : Form l) (hi : i < l.length) (hk : (atN l i).kind = 8) (hn : V.length <= 900) (hV : ValC (some ⟨ba, oa, none⟩) l c m V (atN l i).a.toNat) : ValC (some ⟨ba, oa, none⟩) l c m V i := by
 intro rb u W a b r v w hr hW hab hb hrk hv
 obtain ⟨hah, vx, hvx, hv1⟩ := frame_math (h := 1) hF hi hk (by omega) hab hb hv
 have haz : (((atN l i).a.toNat : Nat) : Int) = (atN l i).a := by
  have hcs := (hF.2.1 i hi).cs rfl
  cases hcs with
  | leaf h1 hf => unfold leafK at h1; omega
  | one h1 hi0 ha hb h7 hr hcl hf => omega
  | two h1 hi0 hb ha hf0 hl hcl hf => omega
 have hWn : W.length <= 900 := by obtain ⟨t, rfl⟩ := hW; simp at hn; omega
 have HV1 := Lib.hid hv1
 have hWb : W.take b <+: V := (List.take_prefix b W).trans hW
 have hbl : b <= (W.take b).length := by rw [List.length_take]; omega
 have HCC := Lib.hid (fun (rb' : Nat) (u' : Value) (w' : World) (h : Rdr rb' (some ⟨ba, oa, none⟩) l c u' (W.take b) V m w') => hV rb' u' (W.take b) (a + 1) b r vx w' h hWb hah hbl hrk hvx)
 have HUT := Lib.hid (fun (w' : World) (h : Rdr rb (some ⟨ba, oa, none⟩) l c u W V m w') => cupTo_any rb (some ⟨ba, oa, none⟩) l c u W m b w' h.rd hb)
 have HHD : Hid (∀ w', Calls Try.prog 52 #[.int .i64 8] w' (Pure w' (.int .i64 1))) := fun w' => chead_any 8 w'
 clear hv hv1 hvx hV hWb hbl
 obtain ⟨na, hna⟩ : ∃ na, (atN l i).a.toNat = na := ⟨_, rfl⟩
 rw [hna] at haz HCC
 have HNA := Lib.hid haz
 clear haz hna
 have hb1 := (Below.refl w.heap.size w).alloc (Nat.le_refl _) (.cells #[.int .i64 0, .int .u8 0, .string ⟨#[]⟩, .int .i64 0, .slice none 0 0] 32)
 have HR1 := Lib.hid (hr.later hb1)
 have HB1 := Lib.hid hb1
 have HZ1 := Lib.hid (Blk.new w #[.int .i64 0, .int .u8 0, .string ⟨#[]⟩, .int .i64 0, .slice none 0 0] 32)
 have HR0 := Lib.hid hr
 have HI := Lib.hid hi
 have HAT : Hid (∀ w', NRow w' (some ⟨ba, oa, none⟩) l -> At10 w' ba (oa + i * 10) (atN l i)) := fun w' h => h.at hi rfl
 unfold At10 at HAT
 rw [hk] at HAT
 have hil : (i : Int) < (l.length : Int) := by omega
 have hi0 : ¬ (i : Int) < 0 := by omega
 have hs1 : (w.alloc (.cells #[.int .i64 0, .int .u8 0, .string ⟨#[]⟩, .int .i64 0, .slice none 0 0] 32)).heap.size = w.heap.size + 1 := by simp
 clear hr hb1 hF hi
 go_enter Try.func32, Try.ntmps32
 go_upto_region 1 with (fail)
 generalize w.alloc (.cells #[.int .i64 0, .int .u8 0, .string ⟨#[]⟩, .int .i64 0, .slice none 0 0] 32) = w1 at *
 obtain ⟨g0, -⟩ := HAT.out _ HR1.out.rd.row
 have k0 := HR1.out.rd.blk.cell 0
 simp at k0
 have hb2 := (Below.refl w1.heap.size w1).alloc (Nat.le_refl _) (.cells #[.int .i64 8, .int .u8 0, .string ⟨#[]⟩, .int .i64 0, .slice none 0 0] 32)
 have HS2 : Hid (VvS m (some ⟨ba, oa, none⟩) l c u W V rb w #[.int .i64 8, .int .u8 0, .string ⟨#[]⟩, .int .i64 0, .slice none 0 0] (w1.alloc (.cells #[.int .i64 8, .int .u8 0, .string ⟨#[]⟩, .int .i64 0, .slice none 0 0] 32))) := by
  refine ⟨(Rk.of_below HB1.out).later HB1.out.size hb2, HR1.out.later hb2, HZ1.out.later hb2, ?_⟩
  have := Blk.new w1 #[.int .i64 8, .int .u8 0, .string ⟨#[]⟩, .int .i64 0, .slice none 0 0] 32
  rwa [hs1] at this
 clear hb2
 go_upto_region 3 with (fail)
 generalize w1.alloc (.cells #[.int .i64 8, .int .u8 0, .string ⟨#[]⟩, .int .i64 0, .slice none 0 0] 32) = w2 at *
 clear g0 k0 HR1 HB1 HZ1
 obtain ⟨g0, g1, g2, -, -, -, -, -, -, g9⟩ := HAT.out _ HS2.out.rd.rd.row
 have k0 := HS2.out.rd.rd.blk.cell 0
 simp at k0
 have k1 := HS2.out.rd.rd.blk.cell 1
 simp at k1
 have HR : Hid (∀ w w', Below w.heap.size w w' -> RkR m l V w w') := fun w w' h => .of_below h
 have HLT : Hid (w.heap.size + 2 <= w2.heap.size) := HS2.out.b.lt
 go_upto_region 18 with (fail)
 clear g0 g1 g2 g9 k0 k1
 refine G.wp_region_stable_last (R := (RkR m l V)) HR.out (S := (FvS m (some ⟨ba, oa, none⟩) l c u W V rb w #[.int .i64 8, .int .u8 0, .string ⟨#[]⟩, .int .i64 0, .slice none 0 0])) (hSt := fun _ _ h hr => h.grow hr) (plan := [[(0, none)], [(3, none)], [(92, some 0), (93, some 1)], [(11, none)], [(95, some 3)], [(96, some 4)], [(97, some 5)], [(2, none)], [(11, none)], [(100, some 8)], [(101, some 9)], [(102, some 10)], [(103, some 11)], [(99, some 7), (104, some 12)], [(3, none)], [(4, none)], [(94, some 2), (98, some 6), (105, some 13), (106, some 14), (107, some 15)], [(108, some 16)], [(12, none)]]) rfl (by kernel_rfl) (by kernel_rfl) (by kernel_rfl) (by kernel_rfl) ?hS ?_
 rotate_left
 simp only [List.dropLast]
 iterate 2 first
  | (refine G.chain_skip (by rfl) (by rfl) ?_)
  | (apply G.chain_want (by rfl)
     ·intro act wx hS hr
      simp at hr
      obtain ⟨g0, g1, -⟩ := HAT.out _ hS.s.rd.rd.row
      rw [<- HNA.out] at g1
      go_simp
      (try go_ints)
      first
       | (refine (HHD.out _).mono ?_; rintro e w5 ⟨rfl, rfl⟩; exact G.Done.same HR.out)
       | exact G.Done.same HR.out
    )
 (refine G.chain_rel (UtV (some ⟨ba, oa, none⟩) l c (W.take b) V m) (UtV.grow (some ⟨ba, oa, none⟩) l c (W.take b) V m) (by rfl) ?_ ?_
  ·intro act wx hS hr
   simp at hr
   obtain ⟨g0, g1, -⟩ := HAT.out _ hS.s.rd.rd.row
   rw [<- HNA.out] at g1
   all_goals go_simp
   (refine (HUT.out wx hS.s.rd).mono ?_); rintro e w5 ⟨rb5, u5, rfl, h5, hb5, -⟩; exact G.Done.rel (HR.out _ _ hb5) ⟨rb5, u5, rfl, ⟨h5, (hS.s.rd.later hb5).kept⟩⟩
 )
 iterate 13 first
  | (refine G.chain_skip (by rfl) (by rfl) ?_)
  | (apply G.chain_want (by rfl)
     ·intro act wx hS hr
      simp at hr
      obtain ⟨g0, g1, -⟩ := HAT.out _ hS.s.rd.rd.row
      rw [<- HNA.out] at g1
      go_simp
      (try go_ints)
      first
       | (refine (HHD.out _).mono ?_; rintro e w5 ⟨rfl, rfl⟩; exact G.Done.same HR.out)
       | exact G.Done.same HR.out
    )
 (refine G.chain_rel (VaV w.heap.size (some ⟨ba, oa, none⟩) l c u W V m rb vx) (VaV.grow w.heap.size (some ⟨ba, oa, none⟩) l c u W V m rb vx) (by rfl) ?_ ?_
  ·intro act wx hS hr
   simp at hr
   obtain ⟨g0, g1, -⟩ := HAT.out _ hS.s.rd.rd.row
   rw [<- HNA.out] at g1
   obtain ⟨⟨v, hr2, rb5, u5, rfl, hrd5⟩, hr3, hr4, hr5, hr6⟩ := hr
   all_goals go_simp
   (try simp only [hr2, hr3, hr4, hr5, hr6, Option.getD_some]); (try go_simp); (refine (HCC.out rb5 u5 wx hrd5).mono ?_); rintro e w5 ⟨y, rfl, hyv, hok, hrk5⟩; exact G.Done.rel hrk5 ⟨y, rfl, hyv, ⟨hok.1, hok.2.mono fun b _ hb => Nat.le_trans hS.low hb⟩, Nat.le_trans hS.low hrk5.size, hS.s.rd.rk hrk5⟩
 )
 (refine G.chain_rel (KdV w.heap.size (some ⟨ba, oa, none⟩) l c u W V m rb 8 vx) (KdV.grow w.heap.size (some ⟨ba, oa, none⟩) l c u W V m rb 8 vx) (by rfl) ?_ ?_
  ·intro act wx hS hr
   simp at hr
   obtain ⟨g0, g1, -⟩ := HAT.out _ hS.s.rd.rd.row
   rw [<- HNA.out] at g1
   obtain ⟨v, hr2, y, rfl, hyv, hok, hlo, hrd5⟩ := hr
   obtain ⟨⟨yk, yb, yt, yp, ys⟩, yB, yc⟩ := y
   simp only [VCl.cells, vlC] at hr2
   all_goals go_simp
   (try simp only [hr2, Option.getD_some]); (try go_simp); exact G.Done.rel (HR.out _ _ ((Below.refl _ _).alloc (Nat.le_refl _) _)) (VaV.kid hyv hok hlo hrd5)
 )
 iterate 1 first
  | (refine G.chain_skip (by rfl) (by rfl) ?_)
  | (apply G.chain_want (by rfl)
     ·intro act wx hS hr
      simp at hr
      obtain ⟨g0, g1, -⟩ := HAT.out _ hS.s.rd.rd.row
      rw [<- HNA.out] at g1
      go_simp
      (try go_ints)
      first
       | (refine (HHD.out _).mono ?_; rintro e w5 ⟨rfl, rfl⟩; exact G.Done.same HR.out)
       | exact G.Done.same HR.out
    )
 show ∀ w', _ -> _
 intro w9 hw9
 simp [Act.put]
 case hS => exact ⟨HS2.out, HLT.out⟩
 intro v2 _ v16 _ v17 hv17
 obtain ⟨g17, rfl, hok17, -⟩ := hv17
 have HS5 := Lib.hid hw9.s
 have HOK := Lib.hid (fun x => vok_set (p := fun b => w.heap.size <= b /\ b ≠ w.heap.size) (g := w.heap.size + 1) (j := 4) (x := x) (VOk.deep (H2 := w.heap.size + 2) hok17 (by omega)))
 clear hw9 hok17 HS2 HUT HCC HHD
 have e1 := HS5.out.b.cell 4
 have e2 := HS5.out.b.frozen 4
 simp at e1
 have HSF : Hid (VvS m (some ⟨ba, oa, none⟩) l c u W V rb w #[.int .i64 8, .int .u8 0, .string ⟨#[]⟩, .int .i64 0, .slice (some ⟨g17, 0, none⟩) 1 1] (w9.setCell ⟨w.heap.size + 1, 4, none⟩ (.slice (some ⟨g17, 0, none⟩) 1 1))) := by
  have := HS5.out.setb HR0.out 4 (.slice (some ⟨g17, 0, none⟩) 1 1)
  unfold Hid; simpa using this
 have HPP := Lib.hid (val_close (xk := 8) (xb := 0) (xt := []) (xp := 0) (xs := Vs.of [vx]) (xB := some ⟨g17, 0, none⟩) (xc := 1) HSF.out HV1.out (HOK.out _))
 clear HS5 HOK HV1 HR
 go_upto_region 19 with (fail)
 generalize w9.setCell ⟨w.heap.size + 1, 4, none⟩ (.slice (some ⟨g17, 0, none⟩) 1 1) = w6 at *
 clear e1 e2
 have z0 := HSF.out.z.cell 0
 have z1 := HSF.out.z.cell 1
 have z2 := HSF.out.z.cell 2
 have z3 := HSF.out.z.cell 3
 have z4 := HSF.out.z.cell 4
 simp at z0 z1 z2 z3 z4
 have f0 := HSF.out.z.frozen 0
 have f1 := HSF.out.z.frozen 1
 have f2 := HSF.out.z.frozen 2
 have f3 := HSF.out.z.frozen 3
 have f4 := HSF.out.z.frozen 4
 have b0 := HSF.out.b.cell 0
 have b1 := HSF.out.b.cell 1
 have b2 := HSF.out.b.cell 2
 have b3 := HSF.out.b.cell 3
 have b4 := HSF.out.b.cell 4
 simp at b0 b1 b2 b3 b4
 have HP2 := HPP.out
 unfold put5c at HP2
 have HP3 := Lib.hid HP2
 clear HP2 HPP HSF
 go_wp2
 have HP4 := HP3.out
 clear HP3
 refine bodyPost_ret ?_ rfl HP4
 ·simp [results, Try.results32, go_sem]
  go_simp
  all_goals first | rfl | exact ⟨rfl, rfl⟩
theorem value_wide {l : List Nd} {c m ba oa : Nat} {V : Wd} {i : Nat} (hF : Form l) (hi : i < l.length) (hk : (atN l i).kind = 9) (hn : V.length <= 900) (hV : ValC (some ⟨ba, oa, none⟩) l c m V (atN l i).a.toNat) : ValC (some ⟨ba, oa, none⟩) l c m V i := by
 intro rb u W a b r v w hr hW hab hb hrk hv
 obtain ⟨hah, vx, hvx, hv1⟩ := frame_math (h := 2) hF hi hk (by omega) hab hb hv
 have haz : (((atN l i).a.toNat : Nat) : Int) = (atN l i).a := by
  have hcs := (hF.2.1 i hi).cs rfl
  cases hcs with
  | leaf h1 hf => unfold leafK at h1; omega
  | one h1 hi0 ha hb h7 hr hcl hf => omega
  | two h1 hi0 hb ha hf0 hl hcl hf => omega
 have hWn : W.length <= 900 := by obtain ⟨t, rfl⟩ := hW; simp at hn; omega
 have HV1 := Lib.hid hv1
 have hWb : W.take b <+: V := (List.take_prefix b W).trans hW
 have hbl : b <= (W.take b).length := by rw [List.length_take]; omega
 have HCC := Lib.hid (fun (rb' : Nat) (u' : Value) (w' : World) (h : Rdr rb' (some ⟨ba, oa, none⟩) l c u' (W.take b) V m w') => hV rb' u' (W.take b) (a + 2) b r vx w' h hWb hah hbl hrk hvx)
 have HUT := Lib.hid (fun (w' : World) (h : Rdr rb (some ⟨ba, oa, none⟩) l c u W V m w') => cupTo_any rb (some ⟨ba, oa, none⟩) l c u W m b w' h.rd hb)
 have HHD : Hid (∀ w', Calls Try.prog 52 #[.int .i64 9] w' (Pure w' (.int .i64 2))) := fun w' => chead_any 9 w'
 clear hv hv1 hvx hV hWb hbl
 obtain ⟨na, hna⟩ : ∃ na, (atN l i).a.toNat = na := ⟨_, rfl⟩
 rw [hna] at haz HCC
 have HNA := Lib.hid haz
 clear haz hna
 have hb1 := (Below.refl w.heap.size w).alloc (Nat.le_refl _) (.cells #[.int .i64 0, .int .u8 0, .string ⟨#[]⟩, .int .i64 0, .slice none 0 0] 32)
 have HR1 := Lib.hid (hr.later hb1)
 have HB1 := Lib.hid hb1
 have HZ1 := Lib.hid (Blk.new w #[.int .i64 0, .int .u8 0, .string ⟨#[]⟩, .int .i64 0, .slice none 0 0] 32)
 have HR0 := Lib.hid hr
 have HI := Lib.hid hi
 have HAT : Hid (∀ w', NRow w' (some ⟨ba, oa, none⟩) l -> At10 w' ba (oa + i * 10) (atN l i)) := fun w' h => h.at hi rfl
 unfold At10 at HAT
 rw [hk] at HAT
 have hil : (i : Int) < (l.length : Int) := by omega
 have hi0 : ¬ (i : Int) < 0 := by omega
 have hs1 : (w.alloc (.cells #[.int .i64 0, .int .u8 0, .string ⟨#[]⟩, .int .i64 0, .slice none 0 0] 32)).heap.size = w.heap.size + 1 := by simp
 clear hr hb1 hF hi
 go_enter Try.func32, Try.ntmps32
 go_upto_region 1 with (fail)
 generalize w.alloc (.cells #[.int .i64 0, .int .u8 0, .string ⟨#[]⟩, .int .i64 0, .slice none 0 0] 32) = w1 at *
 obtain ⟨g0, -⟩ := HAT.out _ HR1.out.rd.row
 have k0 := HR1.out.rd.blk.cell 0
 simp at k0
 have hb2 := (Below.refl w1.heap.size w1).alloc (Nat.le_refl _) (.cells #[.int .i64 9, .int .u8 0, .string ⟨#[]⟩, .int .i64 0, .slice none 0 0] 32)
 have HS2 : Hid (VvS m (some ⟨ba, oa, none⟩) l c u W V rb w #[.int .i64 9, .int .u8 0, .string ⟨#[]⟩, .int .i64 0, .slice none 0 0] (w1.alloc (.cells #[.int .i64 9, .int .u8 0, .string ⟨#[]⟩, .int .i64 0, .slice none 0 0] 32))) := by
  refine ⟨(Rk.of_below HB1.out).later HB1.out.size hb2, HR1.out.later hb2, HZ1.out.later hb2, ?_⟩
  have := Blk.new w1 #[.int .i64 9, .int .u8 0, .string ⟨#[]⟩, .int .i64 0, .slice none 0 0] 32
  rwa [hs1] at this
 clear hb2
 go_upto_region 3 with (fail)
 generalize w1.alloc (.cells #[.int .i64 9, .int .u8 0, .string ⟨#[]⟩, .int .i64 0, .slice none 0 0] 32) = w2 at *
 clear g0 k0 HR1 HB1 HZ1
 obtain ⟨g0, g1, g2, -, -, -, -, -, -, g9⟩ := HAT.out _ HS2.out.rd.rd.row
 have k0 := HS2.out.rd.rd.blk.cell 0
 simp at k0
 have k1 := HS2.out.rd.rd.blk.cell 1
 simp at k1
 have HR : Hid (∀ w w', Below w.heap.size w w' -> RkR m l V w w') := fun w w' h => .of_below h
 have HLT : Hid (w.heap.size + 2 <= w2.heap.size) := HS2.out.b.lt
 go_upto_region 18 with (fail)
 clear g0 g1 g2 g9 k0 k1
 refine G.wp_region_stable_last (R := (RkR m l V)) HR.out (S := (FvS m (some ⟨ba, oa, none⟩) l c u W V rb w #[.int .i64 9, .int .u8 0, .string ⟨#[]⟩, .int .i64 0, .slice none 0 0])) (hSt := fun _ _ h hr => h.grow hr) (plan := [[(0, none)], [(3, none)], [(92, some 0), (93, some 1)], [(11, none)], [(95, some 3)], [(96, some 4)], [(97, some 5)], [(2, none)], [(11, none)], [(100, some 8)], [(101, some 9)], [(102, some 10)], [(103, some 11)], [(99, some 7), (104, some 12)], [(3, none)], [(4, none)], [(94, some 2), (98, some 6), (105, some 13), (106, some 14), (107, some 15)], [(108, some 16)], [(12, none)]]) rfl (by kernel_rfl) (by kernel_rfl) (by kernel_rfl) (by kernel_rfl) ?hS ?_
 rotate_left
 simp only [List.dropLast]
 iterate 2 first
  | (refine G.chain_skip (by rfl) (by rfl) ?_)
  | (apply G.chain_want (by rfl)
     ·intro act wx hS hr
      simp at hr
      obtain ⟨g0, g1, -⟩ := HAT.out _ hS.s.rd.rd.row
      rw [<- HNA.out] at g1
      go_simp
      (try go_ints)
      first
       | (refine (HHD.out _).mono ?_; rintro e w5 ⟨rfl, rfl⟩; exact G.Done.same HR.out)
       | exact G.Done.same HR.out
    )
 (refine G.chain_rel (UtV (some ⟨ba, oa, none⟩) l c (W.take b) V m) (UtV.grow (some ⟨ba, oa, none⟩) l c (W.take b) V m) (by rfl) ?_ ?_
  ·intro act wx hS hr
   simp at hr
   obtain ⟨g0, g1, -⟩ := HAT.out _ hS.s.rd.rd.row
   rw [<- HNA.out] at g1
   all_goals go_simp
   (refine (HUT.out wx hS.s.rd).mono ?_); rintro e w5 ⟨rb5, u5, rfl, h5, hb5, -⟩; exact G.Done.rel (HR.out _ _ hb5) ⟨rb5, u5, rfl, ⟨h5, (hS.s.rd.later hb5).kept⟩⟩
 )
 iterate 13 first
  | (refine G.chain_skip (by rfl) (by rfl) ?_)
  | (apply G.chain_want (by rfl)
     ·intro act wx hS hr
      simp at hr
      obtain ⟨g0, g1, -⟩ := HAT.out _ hS.s.rd.rd.row
      rw [<- HNA.out] at g1
      go_simp
      (try go_ints)
      first
       | (refine (HHD.out _).mono ?_; rintro e w5 ⟨rfl, rfl⟩; exact G.Done.same HR.out)
       | exact G.Done.same HR.out
    )
 (refine G.chain_rel (VaV w.heap.size (some ⟨ba, oa, none⟩) l c u W V m rb vx) (VaV.grow w.heap.size (some ⟨ba, oa, none⟩) l c u W V m rb vx) (by rfl) ?_ ?_
  ·intro act wx hS hr
   simp at hr
   obtain ⟨g0, g1, -⟩ := HAT.out _ hS.s.rd.rd.row
   rw [<- HNA.out] at g1
   obtain ⟨⟨v, hr2, rb5, u5, rfl, hrd5⟩, hr3, hr4, hr5, hr6⟩ := hr
   all_goals go_simp
   (try simp only [hr2, hr3, hr4, hr5, hr6, Option.getD_some]); (try go_simp); (refine (HCC.out rb5 u5 wx hrd5).mono ?_); rintro e w5 ⟨y, rfl, hyv, hok, hrk5⟩; exact G.Done.rel hrk5 ⟨y, rfl, hyv, ⟨hok.1, hok.2.mono fun b _ hb => Nat.le_trans hS.low hb⟩, Nat.le_trans hS.low hrk5.size, hS.s.rd.rk hrk5⟩
 )
 (refine G.chain_rel (KdV w.heap.size (some ⟨ba, oa, none⟩) l c u W V m rb 9 vx) (KdV.grow w.heap.size (some ⟨ba, oa, none⟩) l c u W V m rb 9 vx) (by rfl) ?_ ?_
  ·intro act wx hS hr
   simp at hr
   obtain ⟨g0, g1, -⟩ := HAT.out _ hS.s.rd.rd.row
   rw [<- HNA.out] at g1
   obtain ⟨v, hr2, y, rfl, hyv, hok, hlo, hrd5⟩ := hr
   obtain ⟨⟨yk, yb, yt, yp, ys⟩, yB, yc⟩ := y
   simp only [VCl.cells, vlC] at hr2
   all_goals go_simp
   (try simp only [hr2, Option.getD_some]); (try go_simp); exact G.Done.rel (HR.out _ _ ((Below.refl _ _).alloc (Nat.le_refl _) _)) (VaV.kid hyv hok hlo hrd5)
 )
 iterate 1 first
  | (refine G.chain_skip (by rfl) (by rfl) ?_)
  | (apply G.chain_want (by rfl)
     ·intro act wx hS hr
      simp at hr
      obtain ⟨g0, g1, -⟩ := HAT.out _ hS.s.rd.rd.row
      rw [<- HNA.out] at g1
      go_simp
      (try go_ints)
      first
       | (refine (HHD.out _).mono ?_; rintro e w5 ⟨rfl, rfl⟩; exact G.Done.same HR.out)
       | exact G.Done.same HR.out
    )
 show ∀ w', _ -> _
 intro w9 hw9
 simp [Act.put]
 case hS => exact ⟨HS2.out, HLT.out⟩
 intro v2 _ v16 _ v17 hv17
 obtain ⟨g17, rfl, hok17, -⟩ := hv17
 have HS5 := Lib.hid hw9.s
 have HOK := Lib.hid (fun x => vok_set (p := fun b => w.heap.size <= b /\ b ≠ w.heap.size) (g := w.heap.size + 1) (j := 4) (x := x) (VOk.deep (H2 := w.heap.size + 2) hok17 (by omega)))
 clear hw9 hok17 HS2 HUT HCC HHD
 have e1 := HS5.out.b.cell 4
 have e2 := HS5.out.b.frozen 4
 simp at e1
 have HSF : Hid (VvS m (some ⟨ba, oa, none⟩) l c u W V rb w #[.int .i64 9, .int .u8 0, .string ⟨#[]⟩, .int .i64 0, .slice (some ⟨g17, 0, none⟩) 1 1] (w9.setCell ⟨w.heap.size + 1, 4, none⟩ (.slice (some ⟨g17, 0, none⟩) 1 1))) := by
  have := HS5.out.setb HR0.out 4 (.slice (some ⟨g17, 0, none⟩) 1 1)
  unfold Hid; simpa using this
 have HPP := Lib.hid (val_close (xk := 9) (xb := 0) (xt := []) (xp := 0) (xs := Vs.of [vx]) (xB := some ⟨g17, 0, none⟩) (xc := 1) HSF.out HV1.out (HOK.out _))
 clear HS5 HOK HV1 HR
 go_upto_region 19 with (fail)
 generalize w9.setCell ⟨w.heap.size + 1, 4, none⟩ (.slice (some ⟨g17, 0, none⟩) 1 1) = w6 at *
 clear e1 e2
 have z0 := HSF.out.z.cell 0
 have z1 := HSF.out.z.cell 1
 have z2 := HSF.out.z.cell 2
 have z3 := HSF.out.z.cell 3
 have z4 := HSF.out.z.cell 4
 simp at z0 z1 z2 z3 z4
 have f0 := HSF.out.z.frozen 0
 have f1 := HSF.out.z.frozen 1
 have f2 := HSF.out.z.frozen 2
 have f3 := HSF.out.z.frozen 3
 have f4 := HSF.out.z.frozen 4
 have b0 := HSF.out.b.cell 0
 have b1 := HSF.out.b.cell 1
 have b2 := HSF.out.b.cell 2
 have b3 := HSF.out.b.cell 3
 have b4 := HSF.out.b.cell 4
 simp at b0 b1 b2 b3 b4
 have HP2 := HPP.out
 unfold put5c at HP2
 have HP3 := Lib.hid HP2
 clear HP2 HPP HSF
 go_wp2
 have HP4 := HP3.out
 clear HP3
 refine bodyPost_ret ?_ rfl HP4
 ·simp [results, Try.results32, go_sem]
  go_simp
  all_goals first | rfl | exact ⟨rfl, rfl⟩
theorem value_none {l : List Nd} {c m ba oa : Nat} {V : Wd} {i : Nat} (hk : ¬ ((atN l i).kind = 1 \/ (atN l i).kind = 2 \/ (atN l i).kind = 3 \/ (atN l i).kind = 4 \/ (atN l i).kind = 5 \/ (atN l i).kind = 6 \/ (atN l i).kind = 7 \/ (atN l i).kind = 8 \/ (atN l i).kind = 9)) : ValC (some ⟨ba, oa, none⟩) l c m V i := by
 intro rb u W a b r v w hr hW hab hb hrk hv
 exfalso
 unfold EN at hv
 rw [if_neg (by omega), if_neg (by omega), if_neg (by omega), if_neg (by omega), if_neg (by omega), if_neg (by omega), if_neg (by omega), if_neg (by omega), if_neg (by omega)] at hv
 simp at hv
theorem cval_all {l : List Nd} {c m ba oa : Nat} {V : Wd} (hF : Form l) (hl : l.length <= 4096) (hT : ∀ n ∈ l, n.text.length <= 1073741824) (hn : V.length <= 900)
 (hR : ∀ i, i < l.length -> (atN l i).kind = 7 -> EndsC (some ⟨ba, oa, none⟩) l c m V (atN l i).a.toNat -> ValC (some ⟨ba, oa, none⟩) l c m V (atN l i).a.toNat -> RepC (some ⟨ba, oa, none⟩) l c m ba oa V i) :
 ∀ i, i < l.length -> ValC (some ⟨ba, oa, none⟩) l c m V i /\ PicC (some ⟨ba, oa, none⟩) l c m V i := by
 intro i
 induction i using Nat.strongRecOn with
 | ind i ih =>
  intro hi
  have hA := fun j (hj : j < l.length) => cread_all (c := c) (m := m) (ba := ba) (oa := oa) hF (by omega) hT hn j hj
  by_cases h5 : (atN l i).kind = 5
  ·have ha := cnt_kidA hF hi (by omega)
   have hb := cnt_kidB hF hi (.inr h5)
   have hP := pick_or (c := c) (m := m) (ba := ba) (oa := oa) hF hi h5 hn (ih _ ha (by omega)).2 (ih _ hb (by omega)).2
   exact ⟨value_or hF hi h5 hP, hP⟩
  ·have hv : ValC (some ⟨ba, oa, none⟩) l c m V i := by
    by_cases h1 : (atN l i).kind = 1
    ·exact value_one hF hi h1
    by_cases h2 : (atN l i).kind = 2
    ·exact value_byte hF hi h2
    by_cases h3 : (atN l i).kind = 3
    ·exact value_text hF hi h3
    by_cases h4 : (atN l i).kind = 4
    ·exact value_seq hF hl hi h4 hn (fun j hj => (hA j (by omega)).2.1) (fun j hj => (hA j (by omega)).2.2) fun j hj => (ih j hj (by omega)).1
    by_cases h6 : (atN l i).kind = 6
    ·have ha := cnt_kidA hF hi (by omega)
     exact value_star hF hi h6 hn (hA i hi).2.1 (hA _ (by omega)).2.1 (ih _ ha (by omega)).1
    by_cases h7 : (atN l i).kind = 7
    ·have ha := cnt_kidA hF hi (by omega)
     exact value_rep hF hi h7 (hR i hi h7 (hA _ (by omega)).2.1 (ih _ ha (by omega)).1)
    by_cases h8 : (atN l i).kind = 8
    ·have ha := cnt_kidA hF hi (by omega)
     exact value_frame hF hi h8 hn (ih _ ha (by omega)).1
    by_cases h9 : (atN l i).kind = 9
    ·have ha := cnt_kidA hF hi (by omega)
     exact value_wide hF hi h9 hn (ih _ ha (by omega)).1
    exact value_none (by omega)
   exact ⟨hv, pick_other hF hi h5 hn (hA i hi).2.1 hv⟩
end Go.Proofs.Ytpbbokdmoaadfaa
