/- The statement CountTells of layer 12, walked, if its anchor answers true. -/
import Derived.Test.YtpbbokdmoaadfaaM39
import Derived.Test.YtpbbokdmoaadfaaM18
import Derived.Test.YtpbbokdmoaadfaaM07
import Derived.Test.YtpbbokdmoaadfaaM24
import Derived.Lib.SlBytesConst
namespace Go.Proofs.Ytpbbokdmoaadfaa
set_option maxHeartbeats 64000000
set_option maxRecDepth 1000000
set_option linter.all false
open Go Go.RowKit
def Awake12 : Prop := ∀ (w : World), Calls Try.prog 8 #[] w (Ans w (.bool true))
structure Mk (B : Nat) (w w' : World) : Prop where
 os : w'.os = w.os
 tape : w'.tape = w.tape
 output : w'.output = w.output
 size : w.heap.size <= w'.heap.size
 block : ∀ k, k < B -> k < w.heap.size -> w'.heap[k]? = w.heap[k]?
 cells : ∀ (b : Nat) (vs : Array Value) (t : TypeId) (f : Nat × Nat), w.heap[b]? = some (.cells vs t f) -> ∃ f', w'.heap[b]? = some (.cells vs t f')
theorem Mk.of {B : Nat} (w w' : World) (h : Below w.heap.size w w') : Mk B w w' := ⟨h.os, h.tape, h.output, h.size, fun k _ hk => h.block k hk, fun b vs t f hb => ⟨f, (h.block b (Array.getElem?_eq_some_iff.1 hb).1).trans hb⟩⟩
theorem Mk.trans {B : Nat} {a b c : World} (h : Mk B a b) (k : Mk B b c) : Mk B a c :=
 ⟨k.os.trans h.os, k.tape.trans h.tape, k.output.trans h.output, Nat.le_trans h.size k.size, fun i hi ha => (k.block i hi (Nat.lt_of_lt_of_le ha h.size)).trans (h.block i hi ha), fun x vs t f hx => by
  obtain ⟨f', h1⟩ := h.cells x vs t f hx
  exact k.cells x vs t f' h1⟩
theorem Mk.below {w w' : World} (h : Mk w.heap.size w w') : Below w.heap.size w w' := ⟨h.os, h.tape, h.output, h.size, fun k hk => h.block k hk hk⟩
def MkR (B : Nat) (W : List UInt8) (v : Value) (w : World) : Prop := ∃ b vs f, v = .slice (some ⟨b, 0, none⟩) W.length W.length /\ B <= b /\ w.heap[b]? = some (.cells vs 5 f) /\ vs.toList = bytesV (nats W)
theorem MkR.keep (B : Nat) (W : List UInt8) : ∀ v w w', MkR B W v w -> Mk B w w' -> MkR B W v w' := fun v w w' ⟨b, vs, f, h1, h2, h3, h4⟩ k => by
 obtain ⟨f', h5⟩ := k.cells _ _ _ _ h3
 exact ⟨b, vs, f', h1, h2, h5, h4⟩
theorem MkR.new {B : Nat} {w : World} {W : List UInt8} {cs : Array Value} (hc : cs.toList = bytesV (nats W)) (hB : B <= w.heap.size) : MkR B W (.slice (some ⟨w.heap.size, 0, none⟩) W.length W.length) (w.alloc (.cells cs 5)) :=
 ⟨_, cs, _, rfl, hB, Blk.new w _ _, hc⟩
theorem bytesV_nth (l : List Nat) (i : Nat) (h : i < l.length) : (bytesV l)[i]? = some (.int .u8 ((l.getD i 0 : Nat) : Int)) := by
 unfold bytesV; simp [h]
theorem MkR.isW {B : Nat} {W : List UInt8} {v : Value} {w : World} (h : MkR B W v w) (hl : W.length <= 1000) : IsW W v w := by
 obtain ⟨b, vs, f, h1, h2, h3, h4⟩ := h
 refine .inr ⟨b, 0, W.length, h1, Nat.le_refl _, by omega, (Array.getElem?_eq_some_iff.1 h3).1, fun i hi => ?_⟩
 unfold World.cell?
 simp only [h3, Nat.zero_add]
 show vs[i]? = _
 rw [<- Array.getElem?_toList, h4, bytesV_nth _ _ (by rw [nats_length]; exact hi)]
 congr 2
 have : (nats W).getD i 0 = (W.getD i 0).toNat := by unfold nats; rw [List.getD_eq_getElem?_getD, List.getElem?_map, List.getD_eq_getElem?_getD, List.getElem?_eq_getElem hi]; rfl
 rw [this]
theorem Mk.freeze {B : Nat} {w : World} {b k : Nat} (hb : B <= b) : Mk B w (w.freeze ⟨b, k, none⟩ 1) := by
 unfold World.freeze
 rw [if_neg (by decide)]
 refine ⟨rfl, rfl, rfl, by simp, fun j hj _ => ?_, fun x vs t f hx => ?_⟩
 ·show (w.heap.modify b _)[j]? = _
  rw [Array.getElem?_modify, if_neg (by omega)]
 ·show ∃ f', (w.heap.modify b _)[x]? = some (.cells vs t f')
  rw [Array.getElem?_modify]
  by_cases e : b = x
  ·rw [if_pos e, hx]
   exact ⟨_, rfl⟩
  ·rw [if_neg e]; exact ⟨f, hx⟩
theorem MkR.conv {B : Nat} {W : List UInt8} {v : Value} {w : World} (h : MkR B W v w) : ∃ w', (convert 25 25 v).run Try.prog w = .ok v w' /\ Mk B w w' := by
 obtain ⟨b, vs, f, rfl, h2, h3, h4⟩ := h
 refine ⟨w.freeze ⟨b, vs.size, none⟩ 1, ?_, Mk.freeze h2⟩
 have hsh : w.shape? b = some (5, vs.size) := by unfold World.shape?; rw [h3]
 simp [convert, run_underlying Try.underlying25, run_underlying Try.underlying5, markStringish, hsh]
structure AkS (w0 : World) (bo : Nat) (Ao : Option Addr) (co : Nat) (bs_ : Nat) (As : Option Addr) (cs : Nat) (bf : Nat) (Af : Option Addr) (cf : Nat) (g1 o1 : Nat) (B1 : Option Addr) (c1 : Nat) (g2 o2 : Nat) (B2 : Option Addr) (c2 : Nat) (w : World) : Prop where
 bel : Below w0.heap.size w0 w
 o : Dx bo Ao cwO 3 co w
 s : Dx bs_ As cwS 4 cs w
 f : Dx bf Af cwF 5 cf w
 v1 : ElS g1 o1 cwV1 B1 c1 w
 v2 : ElS g2 o2 cwV2 B2 c2 w
theorem AkS.later {w0 w w' : World} {bo : Nat} {Ao : Option Addr} {co : Nat} {bs_ : Nat} {As : Option Addr} {cs : Nat} {bf : Nat} {Af : Option Addr} {cf : Nat} {g1 o1 : Nat} {B1 : Option Addr} {c1 : Nat} {g2 o2 : Nat} {B2 : Option Addr} {c2 : Nat} (h : AkS w0 bo Ao co bs_ As cs bf Af cf g1 o1 B1 c1 g2 o2 B2 c2 w) (hb : Below w.heap.size w w') : AkS w0 bo Ao co bs_ As cs bf Af cf g1 o1 B1 c1 g2 o2 B2 c2 w' :=
 ⟨h.bel.trans (hb.mono h.bel.size), h.o.later hb, h.s.later hb, h.f.later hb, h.v1.later hb, h.v2.later hb⟩
abbrev AwW (W : Wd) (u : Value) (w : World) : Prop := IsW W u w
def EmV (v : Value) (w : World) : Prop := ∃ A c, v = .slice A 0 c
theorem EmV.keep (R : World -> World -> Prop) : ∀ v w w', EmV v w -> R w w' -> EmV v w' := fun v w w' h hb => h
def TrV (v : Value) (w : World) : Prop := v = .bool true
theorem TrV.keep (R : World -> World -> Prop) : ∀ v w w', TrV v w -> R w w' -> TrV v w' := fun v w w' h hb => h
theorem EqV.keep (n : Nat) (R : World -> World -> Prop) : ∀ v w w', EqV n v w -> R w w' -> EqV n v w' := fun v w w' h hb => h
theorem akc1 {g o c : Nat} {B : Option Addr} {w : World} (h : ElS g o cwV1 B c w) : w.cell? ⟨g, o, none⟩ = some (.int .i64 5) /\ w.cell? ⟨g, o + 1, none⟩ = some (.int .u8 0) /\ w.cell? ⟨g, o + 2, none⟩ = some (.string ⟨#[]⟩) /\ w.cell? ⟨g, o + 3, none⟩ = some (.int .i64 0) /\ w.cell? ⟨g, o + 4, none⟩ = some (.slice B 1 c) :=
 ⟨h.cells 0 (by decide), h.cells 1 (by decide), h.cells 2 (by decide), h.cells 3 (by decide), h.cells 4 (by decide)⟩
theorem akc2 {g o c : Nat} {B : Option Addr} {w : World} (h : ElS g o cwV2 B c w) : w.cell? ⟨g, o, none⟩ = some (.int .i64 5) /\ w.cell? ⟨g, o + 1, none⟩ = some (.int .u8 0) /\ w.cell? ⟨g, o + 2, none⟩ = some (.string ⟨#[]⟩) /\ w.cell? ⟨g, o + 3, none⟩ = some (.int .i64 1) /\ w.cell? ⟨g, o + 4, none⟩ = some (.slice B 1 c) :=
 ⟨h.cells 0 (by decide), h.cells 1 (by decide), h.cells 2 (by decide), h.cells 3 (by decide), h.cells 4 (by decide)⟩
theorem awake12_any : Awake12 := fun w => by
 have CR : Hid (Calls Try.prog 24 #[.int .u8 0, .int .u8 255] w (Ans w (cls (rowB 0 255)))) := refrow_any 0 255 (by omega) (by omega) w
 unfold cls at CR
 have hnd : ndC cwDn = #[.int .i64 2, .int .i64 0, .int .i64 0, .int .i64 0, .int .i64 0, .int .u64 (wd (rowB 0 255) 0), .int .u64 (wd (rowB 0 255) 1), .int .u64 (wd (rowB 0 255) 2), .int .u64 (wd (rowB 0 255) 3), .string ⟨#[]⟩] := rfl
 generalize wd (rowB 0 255) 0 = k0 at *
 generalize wd (rowB 0 255) 1 = k1 at *
 generalize wd (rowB 0 255) 2 = k2 at *
 generalize wd (rowB 0 255) 3 = k3 at *
 go_enter Try.func8, Try.ntmps8
 go_wp2_with fail
 refine CR.out.mono ?_; rintro e w0 ⟨rfl, hb0⟩
 have HB0 := Lib.hid hb0
 clear hb0 CR
 go_upto_region 2 with (fail)
 obtain ⟨ht, hb1⟩ := dx_one cwDn w0 hnd
 have HD : Hid (Dx (w0.heap.size + 1) (some ⟨w0.heap.size, 0, none⟩) cwD 1 1 _) := ht
 have HB2 := Lib.hid (HB0.out.trans (hb1.mono HB0.out.size))
 clear ht hb1 hnd HB0
 generalize (w0.alloc (.cells #[.int .i64 2, .int .i64 0, .int .i64 0, .int .i64 0, .int .i64 0, .int .u64 k0, .int .u64 k1, .int .u64 k2, .int .u64 k3, .string ⟨#[]⟩] 44)).alloc (.cells #[.slice (some ⟨w0.heap.size, 0, none⟩) 1 1] 24) = w1 at *
 generalize w0.heap.size + 1 = bd at *
 generalize (some ⟨w0.heap.size, 0, none⟩ : Option Addr) = Ad at *
 go_upto_region 3 with (fail)
 obtain ⟨ht, hb1⟩ := dx_one cwTn w1 (cs := #[.int .i64 3, .int .i64 0, .int .i64 0, .int .i64 0, .int .i64 0, .int .u64 0, .int .u64 0, .int .u64 0, .int .u64 0, .string ⟨#[97]⟩]) (by unfold cwTn; rw [ndC_zero]; rfl)
 have HT : Hid (Dx (w1.heap.size + 1) (some ⟨w1.heap.size, 0, none⟩) cwT 1 1 _) := ht
 have HD3 := Lib.hid (HD.out.later hb1)
 have HB3 := Lib.hid (HB2.out.trans (hb1.mono HB2.out.size))
 clear ht hb1 HD HB2
 generalize (w1.alloc (.cells #[.int .i64 3, .int .i64 0, .int .i64 0, .int .i64 0, .int .i64 0, .int .u64 0, .int .u64 0, .int .u64 0, .int .u64 0, .string ⟨#[97]⟩] 44)).alloc (.cells #[.slice (some ⟨w1.heap.size, 0, none⟩) 1 1] 24) = w2 at *
 generalize w1.heap.size + 1 = bt at *
 generalize (some ⟨w1.heap.size, 0, none⟩ : Option Addr) = At at *
 have e0 := HD3.out.load
 have e1 := HT.out.load
 have CALL := Lib.hid (HD3.out.isD.rpair HT.out.isD cwD_sp.sm cwT_sp.sm 5)
 go_wp2_with fail
 refine CALL.out.mono ?_; intro e v hp; obtain ⟨s, rfl, ho, hb⟩ := hp
 obtain ⟨Ao, co, hc, hv, hr⟩ := ho.isD
 have el : (pairL 5 cwD cwT).length = 3 := rfl
 rw [el] at hc hv
 obtain rfl : s = .slice Ao 3 co := by simpa using hv
 have hbb := hb.trans ((Below.refl _ _).alloc hb.size (.cells #[.slice Ao 3 co] 24))
 have HO : Hid (Dx v.heap.size Ao cwO 3 co _) := dx_of hr el hc
 have B4 := Lib.hid (HB3.out.trans (hbb.mono HB3.out.size))
 clear HD3 HT HB3 CALL hb ho hr hv hc e0 e1 el hbb
 go_upto_region 4 with (fail)
 generalize v.alloc (.cells #[.slice Ao 3 co] 24) = w4 at *
 generalize v.heap.size = bo at *
 have e0 := HO.out.load
 have CALL := Lib.hid (HO.out.isD.rwrap cwO_sp.sm 6 0 0)
 go_wp2_with fail
 refine CALL.out.mono ?_; intro e v hp; obtain ⟨s, rfl, ho, hb⟩ := hp
 obtain ⟨As, cs, hc, hv, hr⟩ := ho.isD
 have el : (wrapL 6 0 0 cwO).length = 4 := rfl
 rw [el] at hc hv
 obtain rfl : s = .slice As 4 cs := by simpa using hv
 have hbb := hb.trans ((Below.refl _ _).alloc hb.size (.cells #[.slice As 4 cs] 24))
 have HS : Hid (Dx v.heap.size As cwS 4 cs _) := dx_of hr el hc
 clear CALL hb ho hr hv hc el
 have HO5 := Lib.hid (HO.out.later hbb)
 have B5 := Lib.hid (B4.out.trans (hbb.mono B4.out.size))
 clear hbb HO B4 e0
 go_upto_region 5 with (fail)
 generalize v.alloc (.cells #[.slice As 4 cs] 24) = w5 at *
 generalize v.heap.size = bs_ at *
 have e0 := HS.out.load
 have CALL := Lib.hid (HS.out.isD.rwrap cwS_sp.sm 8 0 0)
 go_wp2_with fail
 refine CALL.out.mono ?_; intro e v hp; obtain ⟨s, rfl, ho, hb⟩ := hp
 obtain ⟨Af, cf, hc, hv, hr⟩ := ho.isD
 have el : (wrapL 8 0 0 cwS).length = 5 := rfl
 rw [el] at hc hv
 obtain rfl : s = .slice Af 5 cf := by simpa using hv
 have hbb := hb.trans ((Below.refl _ _).alloc hb.size (.cells #[.slice Af 5 cf] 24))
 have HF : Hid (Dx v.heap.size Af cwF 5 cf _) := dx_of hr el hc
 clear CALL hb ho hr hv hc el
 have HO6 := Lib.hid (HO5.out.later hbb)
 have HS6 := Lib.hid (HS.out.later hbb)
 have B6 := Lib.hid (B5.out.trans (hbb.mono B5.out.size))
 clear hbb HO5 HS B5 e0
 go_upto_region 6 with (fail)
 generalize v.alloc (.cells #[.slice Af 5 cf] 24) = w6 at *
 generalize v.heap.size = bf at *
 have e0 := HO6.out.load
 have kc := fun (w : World) (C : Array Value) (n c : Nat) => Lib.run_convert_bytes_const (P := Try.prog) w 25 5 C n c Try.underlying25 Try.underlying5
 have hbw := (Below.refl w6.heap.size w6).alloc (Nat.le_refl _) (.cells #[.int .u8 97] 5 (1, 2))
 have HW6 : Hid (AwW [97] (.slice (some ⟨w6.heap.size, 0, none⟩) 1 1) (w6.alloc (.cells #[.int .u8 97] 5 (1, 2)))) := MkR.isW (B := 0) ⟨_, #[.int .u8 97], (1, 2), rfl, Nat.zero_le _, World.alloc_heap_new _ _, rfl⟩ (by decide)
 have HO7 := Lib.hid (HO6.out.later hbw)
 have HS7 := Lib.hid (HS6.out.later hbw)
 have HF7 := Lib.hid (HF.out.later hbw)
 have B7 := Lib.hid (B6.out.trans (hbw.mono B6.out.size))
 have CV := Lib.hid (HO7.out.isD.cvals cwO_sc HW6.out (by decide))
 rw [cwO_v] at CV
 clear hbw HO6 HS6 HF B6
 go_wp2_with fail
 refine CV.out.mono ?_; rintro e w8 ⟨v8, rfl, ⟨A8, c8, hv8, hc8, hr8⟩, hb8⟩
 have hv8 : v8 = .slice A8 2 c8 := hv8
 subst hv8
 have hc8 : 2 <= c8 := hc8
 have hrow := VRp.row hr8
 obtain ⟨g1, o1, B1, c1, hA1, hel1⟩ := hrow.el (j := 0) (by decide)
 obtain ⟨g2, o2, B2, c2, hA2, hel2⟩ := hrow.el (j := 1) (by decide)
 subst hA1
 obtain ⟨rfl, rfl⟩ : g2 = g1 /\ o2 = o1 := by
  have := Option.some.inj hA2
  injection this with h1 h2 h3
  exact ⟨h1.symm, h2.symm⟩
 have hel1 : ElS g2 o2 cwV1 B1 c1 w8 := hel1
 have hel2 : ElS g2 (o2 + 5) cwV2 B2 c2 w8 := hel2
 have HZ : Hid (AkS w bo Ao co bs_ As cs bf Af cf g2 o2 B1 c1 g2 (o2 + 5) B2 c2 w8) := ⟨B7.out.trans (hb8.mono B7.out.size), HO7.out.later hb8, HS7.out.later hb8, HF7.out.later hb8, hel1, hel2⟩
 clear hb8 hel1 hel2 hrow hr8 hA2 HO7 HS7 HF7 B7 CV HW6 e0 kc
 have CW : Hid (∀ (W : Wd) (u : Value) (w' : World), W.length <= 900 -> AkS w bo Ao co bs_ As cs bf Af cf g2 o2 B1 c1 g2 (o2 + 5) B2 c2 w' -> AwW W u w' -> Calls Try.prog 13 #[.agg #[.slice Ao 3 co], u] w' (Ans w' (.int .i64 ((wyD cwO W : Nat) : Int)))) := fun W u w' h1 h h2 => h.o.isD.cways cwO_sc h2 h1
 have CA : Hid (∀ u w', AkS w bo Ao co bs_ As cs bf Af cf g2 o2 B1 c1 g2 (o2 + 5) B2 c2 w' -> AwW [97] u w' -> Calls Try.prog 13 #[.agg #[.slice Ao 3 co], u] w' (Ans w' (.int .i64 2))) := fun u w' h h2 => by
  have := h.o.isD.cways cwO_sc h2 (by decide)
  rw [cwO_a] at this; exact this
 have CB : Hid (∀ u w', AkS w bo Ao co bs_ As cs bf Af cf g2 o2 B1 c1 g2 (o2 + 5) B2 c2 w' -> AwW [98] u w' -> Calls Try.prog 13 #[.agg #[.slice Ao 3 co], u] w' (Ans w' (.int .i64 1))) := fun u w' h h2 => by
  have := h.o.isD.cways cwO_sc h2 (by decide)
  rw [cwO_b] at this; exact this
 have CE : Hid (∀ w', AkS w bo Ao co bs_ As cs bf Af cf g2 o2 B1 c1 g2 (o2 + 5) B2 c2 w' -> Calls Try.prog 13 #[.agg #[.slice Ao 3 co], .slice none 0 0] w' (Ans w' (.int .i64 0))) := fun w' h => by
  have := h.o.isD.cways cwO_sc (IsW.nil w') (by decide)
  rw [cwO_e] at this; exact this
 have CH : Hid (∀ w', AkS w bo Ao co bs_ As cs bf Af cf g2 o2 B1 c1 g2 (o2 + 5) B2 c2 w' -> Calls Try.prog 14 #[.agg #[.slice As 4 cs], .slice none 0 0] w' (Ans w' (.bool true))) := fun w' h => by
  have := h.s.isD.chas cwS_sc (IsW.nil w') (by decide)
  rw [cwS_e] at this; exact this
 have CS : Hid (∀ u w', AkS w bo Ao co bs_ As cs bf Af cf g2 o2 B1 c1 g2 (o2 + 5) B2 c2 w' -> AwW [98, 97] u w' -> Calls Try.prog 13 #[.agg #[.slice As 4 cs], u] w' (Ans w' (.int .i64 2))) := fun u w' h h2 => by
  have := h.s.isD.cways cwS_sc h2 (by decide)
  rw [cwS_ba] at this; exact this
 have CF : Hid (∀ u w', AkS w bo Ao co bs_ As cs bf Af cf g2 o2 B1 c1 g2 (o2 + 5) B2 c2 w' -> AwW [1, 98] u w' -> Calls Try.prog 13 #[.agg #[.slice Af 5 cf], u] w' (Ans w' (.int .i64 1))) := fun u w' h h2 => by
  have := h.f.isD.cways cwF_sc h2 (by decide)
  rw [cwF_1] at this; exact this
 have CG : Hid (∀ u w', AkS w bo Ao co bs_ As cs bf Af cf g2 o2 B1 c1 g2 (o2 + 5) B2 c2 w' -> AwW [2, 98] u w' -> Calls Try.prog 13 #[.agg #[.slice Af 5 cf], u] w' (Ans w' (.int .i64 0))) := fun u w' h h2 => by
  have := h.f.isD.cways cwF_sc h2 (by decide)
  rw [cwF_2] at this; exact this
 have CM : Hid (∀ w', AkS w bo Ao co bs_ As cs bf Af cf g2 o2 B1 c1 g2 (o2 + 5) B2 c2 w' -> Calls Try.prog 17 #[.agg #[.int .i64 5, .int .u8 0, .string ⟨#[]⟩, .int .i64 0, .slice B1 1 c1], .agg #[.int .i64 5, .int .u8 0, .string ⟨#[]⟩, .int .i64 1, .slice B2 1 c2]] w' (Ans w' (.bool false))) := fun w' h => by
  have h9 : cntV cwV1 = 2 := by decide
  have := rsame_any cwV1 cwV2 (by decide) (fun x hx => by
   have := cntVs_len x.kids
   rw [h9] at hx
   unfold cntV at hx
   omega) _ _ w' h.v1.isV h.v2.isV
  rw [cwV_ne] at this; exact this
 have CN : Hid (∀ w', AkS w bo Ao co bs_ As cs bf Af cf g2 o2 B1 c1 g2 (o2 + 5) B2 c2 w' -> Calls Try.prog 16 #[.agg #[.slice Ao 3 co], .slice none 0 0] w' (VusP w' [])) := fun w' h => by
  have := h.o.isD.cvals cwO_sc (IsW.nil w') (by decide)
  rw [cwO_v0] at this; exact this
 clear CW
 have HMK : Hid (∀ w w', Below w.heap.size w w' -> Mk w8.heap.size w w') := Lib.hid fun w w' h => Mk.of w w' h
 go_upto_region 7 with (fail)
 refine G.wp_region_stable (R := (Mk w8.heap.size)) HMK.out (S := (Mk w8.heap.size w8)) (hSt := fun _ _ h hr => h.trans hr) (plan := [[(3, none)], [], [(26, some 1)], [(25, some 0), (27, some 2)], [(28, some 3)], [(29, some 4)], [(3, none)], [], [(32, some 7)], [(31, some 6), (33, some 8)], [(34, some 9)], [(30, some 5), (35, some 10)], [(36, some 11)], [(3, none)], [(38, some 13)], [(39, some 14)], [(37, some 12), (40, some 15)], [(41, some 16)], [(4, none)], [(43, some 18)], [(42, some 17), (44, some 19)], [(45, some 20)], [(4, none)], [], [(48, some 23)], [(47, some 22), (49, some 24)], [(50, some 25)], [(46, some 21), (51, some 26)], [(52, some 27)], [(5, none)], [], [(54, some 29), (55, some 30)], [(56, some 31)], [(53, some 28), (57, some 32)], [(58, some 33)], [(5, none)], [], [(60, some 35), (61, some 36)], [(62, some 37)], [(59, some 34), (63, some 38)], [(64, some 39)], [(6, none)], [(66, some 41)], [(67, some 42)], [(65, some 40), (68, some 43)], [(69, some 44)], [(6, none)], [(71, some 46)], [(72, some 47)], [(6, none)], [(74, some 49)], [(75, some 50)], [(73, some 48), (76, some 51)], [(77, some 52)], [(70, some 45), (78, some 53)], [(79, some 54)], [(6, none)], [(81, some 56)], [(82, some 57)], [(83, some 58)], [(84, some 59)], [(80, some 55), (85, some 60)], [(86, some 61)], [(3, none)], [(88, some 63)], [(89, some 64)], [(90, some 65)], [(87, some 62), (91, some 66)], [(92, some 67)]]) (by kernel_rfl) (by kernel_rfl) (by kernel_rfl) ?hS ?_
 rotate_left
 iterate 1 first
  | (refine G.chain_skip (by rfl) (by rfl) ?_)
  | (apply G.chain_want (by rfl)
     ·intro act wx hS hr
      simp at hr
      have HA := HZ.out.later hS.below
      have e0 := HA.o.load
      have e1 := HA.s.load
      have e2 := HA.f.load
      obtain ⟨t0, t1, t2, t3, t4⟩ := akc1 HA.v1
      obtain ⟨s0, s1, s2, s3, s4⟩ := akc2 HA.v2
      go_simp
      (try go_ints)
      first
       | (obtain ⟨hr0, u, hr1, hu⟩ := hr; simp only [hr1, Option.getD_some]; (with_reducible refine (CA.out _ _ HA (hu.isW (by decide))).mono ?_); rintro e w5 ⟨rfl, hb5⟩; exact G.Done.mk (Mk.of _ _ hb5))
       | (obtain ⟨hr0, u, hr1, hu⟩ := hr; simp only [hr1, Option.getD_some]; (with_reducible refine (CB.out _ _ HA (hu.isW (by decide))).mono ?_); rintro e w5 ⟨rfl, hb5⟩; exact G.Done.mk (Mk.of _ _ hb5))
       | ((with_reducible refine (CE.out _ HA).mono ?_); rintro e w5 ⟨rfl, hb5⟩; exact G.Done.mk (Mk.of _ _ hb5))
       | ((with_reducible refine (CH.out _ HA).mono ?_); rintro e w5 ⟨rfl, hb5⟩; exact G.Done.mk (Mk.of _ _ hb5))
       | (obtain ⟨hr0, u, hr1, hu⟩ := hr; simp only [hr1, Option.getD_some]; (with_reducible refine (CS.out _ _ HA (hu.isW (by decide))).mono ?_); rintro e w5 ⟨rfl, hb5⟩; exact G.Done.mk (Mk.of _ _ hb5))
       | (obtain ⟨hr0, u, hr1, hu⟩ := hr; simp only [hr1, Option.getD_some]; (with_reducible refine (CF.out _ _ HA (hu.isW (by decide))).mono ?_); rintro e w5 ⟨rfl, hb5⟩; exact G.Done.mk (Mk.of _ _ hb5))
       | (obtain ⟨hr0, u, hr1, hu⟩ := hr; simp only [hr1, Option.getD_some]; (with_reducible refine (CG.out _ _ HA (hu.isW (by decide))).mono ?_); rintro e w5 ⟨rfl, hb5⟩; exact G.Done.mk (Mk.of _ _ hb5))
       | ((with_reducible refine (CM.out _ HA).mono ?_); rintro e w5 ⟨rfl, hb5⟩; exact G.Done.mk (Mk.of _ _ hb5))
       | exact G.Done.same HMK.out
    )
 (refine G.chain_rel (MkR w8.heap.size [97]) (MkR.keep w8.heap.size [97]) (by rfl) ?_ ?_
  ·intro act wx hS hr
   simp at hr
   have HA := HZ.out.later hS.below
   have e0 := HA.o.load
   have e1 := HA.s.load
   have e2 := HA.f.load
   obtain ⟨t0, t1, t2, t3, t4⟩ := akc1 HA.v1
   obtain ⟨s0, s1, s2, s3, s4⟩ := akc2 HA.v2
   all_goals go_simp
   exact G.Done.rel (Mk.of _ _ ((Below.refl _ _).alloc (Nat.le_refl _) _)) (MkR.new (W := [97]) rfl hS.size)
 )
 (refine G.chain_rel (MkR w8.heap.size [97]) (MkR.keep w8.heap.size [97]) (by rfl) ?_ ?_
  ·intro act wx hS hr
   simp at hr
   have HA := HZ.out.later hS.below
   have e0 := HA.o.load
   have e1 := HA.s.load
   have e2 := HA.f.load
   obtain ⟨t0, t1, t2, t3, t4⟩ := akc1 HA.v1
   obtain ⟨s0, s1, s2, s3, s4⟩ := akc2 HA.v2
   obtain ⟨u, hr1, hu⟩ := hr
   obtain ⟨w7, hcv, hmk⟩ := hu.conv
   all_goals go_simp
   exact G.Done.rel hmk (MkR.keep _ _ _ _ _ hu hmk)
 )
 iterate 4 first
  | (refine G.chain_skip (by rfl) (by rfl) ?_)
  | (apply G.chain_want (by rfl)
     ·intro act wx hS hr
      simp at hr
      have HA := HZ.out.later hS.below
      have e0 := HA.o.load
      have e1 := HA.s.load
      have e2 := HA.f.load
      obtain ⟨t0, t1, t2, t3, t4⟩ := akc1 HA.v1
      obtain ⟨s0, s1, s2, s3, s4⟩ := akc2 HA.v2
      go_simp
      (try go_ints)
      first
       | (obtain ⟨hr0, u, hr1, hu⟩ := hr; simp only [hr1, Option.getD_some]; (with_reducible refine (CA.out _ _ HA (hu.isW (by decide))).mono ?_); rintro e w5 ⟨rfl, hb5⟩; exact G.Done.mk (Mk.of _ _ hb5))
       | (obtain ⟨hr0, u, hr1, hu⟩ := hr; simp only [hr1, Option.getD_some]; (with_reducible refine (CB.out _ _ HA (hu.isW (by decide))).mono ?_); rintro e w5 ⟨rfl, hb5⟩; exact G.Done.mk (Mk.of _ _ hb5))
       | ((with_reducible refine (CE.out _ HA).mono ?_); rintro e w5 ⟨rfl, hb5⟩; exact G.Done.mk (Mk.of _ _ hb5))
       | ((with_reducible refine (CH.out _ HA).mono ?_); rintro e w5 ⟨rfl, hb5⟩; exact G.Done.mk (Mk.of _ _ hb5))
       | (obtain ⟨hr0, u, hr1, hu⟩ := hr; simp only [hr1, Option.getD_some]; (with_reducible refine (CS.out _ _ HA (hu.isW (by decide))).mono ?_); rintro e w5 ⟨rfl, hb5⟩; exact G.Done.mk (Mk.of _ _ hb5))
       | (obtain ⟨hr0, u, hr1, hu⟩ := hr; simp only [hr1, Option.getD_some]; (with_reducible refine (CF.out _ _ HA (hu.isW (by decide))).mono ?_); rintro e w5 ⟨rfl, hb5⟩; exact G.Done.mk (Mk.of _ _ hb5))
       | (obtain ⟨hr0, u, hr1, hu⟩ := hr; simp only [hr1, Option.getD_some]; (with_reducible refine (CG.out _ _ HA (hu.isW (by decide))).mono ?_); rintro e w5 ⟨rfl, hb5⟩; exact G.Done.mk (Mk.of _ _ hb5))
       | ((with_reducible refine (CM.out _ HA).mono ?_); rintro e w5 ⟨rfl, hb5⟩; exact G.Done.mk (Mk.of _ _ hb5))
       | exact G.Done.same HMK.out
    )
 (refine G.chain_rel (MkR w8.heap.size [98]) (MkR.keep w8.heap.size [98]) (by rfl) ?_ ?_
  ·intro act wx hS hr
   simp at hr
   have HA := HZ.out.later hS.below
   have e0 := HA.o.load
   have e1 := HA.s.load
   have e2 := HA.f.load
   obtain ⟨t0, t1, t2, t3, t4⟩ := akc1 HA.v1
   obtain ⟨s0, s1, s2, s3, s4⟩ := akc2 HA.v2
   all_goals go_simp
   exact G.Done.rel (Mk.of _ _ ((Below.refl _ _).alloc (Nat.le_refl _) _)) (MkR.new (W := [98]) rfl hS.size)
 )
 (refine G.chain_rel (MkR w8.heap.size [98]) (MkR.keep w8.heap.size [98]) (by rfl) ?_ ?_
  ·intro act wx hS hr
   simp at hr
   have HA := HZ.out.later hS.below
   have e0 := HA.o.load
   have e1 := HA.s.load
   have e2 := HA.f.load
   obtain ⟨t0, t1, t2, t3, t4⟩ := akc1 HA.v1
   obtain ⟨s0, s1, s2, s3, s4⟩ := akc2 HA.v2
   obtain ⟨u, hr1, hu⟩ := hr
   obtain ⟨w7, hcv, hmk⟩ := hu.conv
   all_goals go_simp
   exact G.Done.rel hmk (MkR.keep _ _ _ _ _ hu hmk)
 )
 iterate 14 first
  | (refine G.chain_skip (by rfl) (by rfl) ?_)
  | (apply G.chain_want (by rfl)
     ·intro act wx hS hr
      simp at hr
      have HA := HZ.out.later hS.below
      have e0 := HA.o.load
      have e1 := HA.s.load
      have e2 := HA.f.load
      obtain ⟨t0, t1, t2, t3, t4⟩ := akc1 HA.v1
      obtain ⟨s0, s1, s2, s3, s4⟩ := akc2 HA.v2
      go_simp
      (try go_ints)
      first
       | (obtain ⟨hr0, u, hr1, hu⟩ := hr; simp only [hr1, Option.getD_some]; (with_reducible refine (CA.out _ _ HA (hu.isW (by decide))).mono ?_); rintro e w5 ⟨rfl, hb5⟩; exact G.Done.mk (Mk.of _ _ hb5))
       | (obtain ⟨hr0, u, hr1, hu⟩ := hr; simp only [hr1, Option.getD_some]; (with_reducible refine (CB.out _ _ HA (hu.isW (by decide))).mono ?_); rintro e w5 ⟨rfl, hb5⟩; exact G.Done.mk (Mk.of _ _ hb5))
       | ((with_reducible refine (CE.out _ HA).mono ?_); rintro e w5 ⟨rfl, hb5⟩; exact G.Done.mk (Mk.of _ _ hb5))
       | ((with_reducible refine (CH.out _ HA).mono ?_); rintro e w5 ⟨rfl, hb5⟩; exact G.Done.mk (Mk.of _ _ hb5))
       | (obtain ⟨hr0, u, hr1, hu⟩ := hr; simp only [hr1, Option.getD_some]; (with_reducible refine (CS.out _ _ HA (hu.isW (by decide))).mono ?_); rintro e w5 ⟨rfl, hb5⟩; exact G.Done.mk (Mk.of _ _ hb5))
       | (obtain ⟨hr0, u, hr1, hu⟩ := hr; simp only [hr1, Option.getD_some]; (with_reducible refine (CF.out _ _ HA (hu.isW (by decide))).mono ?_); rintro e w5 ⟨rfl, hb5⟩; exact G.Done.mk (Mk.of _ _ hb5))
       | (obtain ⟨hr0, u, hr1, hu⟩ := hr; simp only [hr1, Option.getD_some]; (with_reducible refine (CG.out _ _ HA (hu.isW (by decide))).mono ?_); rintro e w5 ⟨rfl, hb5⟩; exact G.Done.mk (Mk.of _ _ hb5))
       | ((with_reducible refine (CM.out _ HA).mono ?_); rintro e w5 ⟨rfl, hb5⟩; exact G.Done.mk (Mk.of _ _ hb5))
       | exact G.Done.same HMK.out
    )
 (refine G.chain_rel (MkR w8.heap.size [98, 97]) (MkR.keep w8.heap.size [98, 97]) (by rfl) ?_ ?_
  ·intro act wx hS hr
   simp at hr
   have HA := HZ.out.later hS.below
   have e0 := HA.o.load
   have e1 := HA.s.load
   have e2 := HA.f.load
   obtain ⟨t0, t1, t2, t3, t4⟩ := akc1 HA.v1
   obtain ⟨s0, s1, s2, s3, s4⟩ := akc2 HA.v2
   all_goals go_simp
   exact G.Done.rel (Mk.of _ _ ((Below.refl _ _).alloc (Nat.le_refl _) _)) (MkR.new (W := [98, 97]) rfl hS.size)
 )
 (refine G.chain_rel (MkR w8.heap.size [98, 97]) (MkR.keep w8.heap.size [98, 97]) (by rfl) ?_ ?_
  ·intro act wx hS hr
   simp at hr
   have HA := HZ.out.later hS.below
   have e0 := HA.o.load
   have e1 := HA.s.load
   have e2 := HA.f.load
   obtain ⟨t0, t1, t2, t3, t4⟩ := akc1 HA.v1
   obtain ⟨s0, s1, s2, s3, s4⟩ := akc2 HA.v2
   obtain ⟨u, hr1, hu⟩ := hr
   obtain ⟨w7, hcv, hmk⟩ := hu.conv
   all_goals go_simp
   exact G.Done.rel hmk (MkR.keep _ _ _ _ _ hu hmk)
 )
 iterate 5 first
  | (refine G.chain_skip (by rfl) (by rfl) ?_)
  | (apply G.chain_want (by rfl)
     ·intro act wx hS hr
      simp at hr
      have HA := HZ.out.later hS.below
      have e0 := HA.o.load
      have e1 := HA.s.load
      have e2 := HA.f.load
      obtain ⟨t0, t1, t2, t3, t4⟩ := akc1 HA.v1
      obtain ⟨s0, s1, s2, s3, s4⟩ := akc2 HA.v2
      go_simp
      (try go_ints)
      first
       | (obtain ⟨hr0, u, hr1, hu⟩ := hr; simp only [hr1, Option.getD_some]; (with_reducible refine (CA.out _ _ HA (hu.isW (by decide))).mono ?_); rintro e w5 ⟨rfl, hb5⟩; exact G.Done.mk (Mk.of _ _ hb5))
       | (obtain ⟨hr0, u, hr1, hu⟩ := hr; simp only [hr1, Option.getD_some]; (with_reducible refine (CB.out _ _ HA (hu.isW (by decide))).mono ?_); rintro e w5 ⟨rfl, hb5⟩; exact G.Done.mk (Mk.of _ _ hb5))
       | ((with_reducible refine (CE.out _ HA).mono ?_); rintro e w5 ⟨rfl, hb5⟩; exact G.Done.mk (Mk.of _ _ hb5))
       | ((with_reducible refine (CH.out _ HA).mono ?_); rintro e w5 ⟨rfl, hb5⟩; exact G.Done.mk (Mk.of _ _ hb5))
       | (obtain ⟨hr0, u, hr1, hu⟩ := hr; simp only [hr1, Option.getD_some]; (with_reducible refine (CS.out _ _ HA (hu.isW (by decide))).mono ?_); rintro e w5 ⟨rfl, hb5⟩; exact G.Done.mk (Mk.of _ _ hb5))
       | (obtain ⟨hr0, u, hr1, hu⟩ := hr; simp only [hr1, Option.getD_some]; (with_reducible refine (CF.out _ _ HA (hu.isW (by decide))).mono ?_); rintro e w5 ⟨rfl, hb5⟩; exact G.Done.mk (Mk.of _ _ hb5))
       | (obtain ⟨hr0, u, hr1, hu⟩ := hr; simp only [hr1, Option.getD_some]; (with_reducible refine (CG.out _ _ HA (hu.isW (by decide))).mono ?_); rintro e w5 ⟨rfl, hb5⟩; exact G.Done.mk (Mk.of _ _ hb5))
       | ((with_reducible refine (CM.out _ HA).mono ?_); rintro e w5 ⟨rfl, hb5⟩; exact G.Done.mk (Mk.of _ _ hb5))
       | exact G.Done.same HMK.out
    )
 (refine G.chain_rel (MkR w8.heap.size [1, 98]) (MkR.keep w8.heap.size [1, 98]) (by rfl) ?_ ?_
  ·intro act wx hS hr
   simp at hr
   have HA := HZ.out.later hS.below
   have e0 := HA.o.load
   have e1 := HA.s.load
   have e2 := HA.f.load
   obtain ⟨t0, t1, t2, t3, t4⟩ := akc1 HA.v1
   obtain ⟨s0, s1, s2, s3, s4⟩ := akc2 HA.v2
   all_goals go_simp
   exact G.Done.rel (Mk.of _ _ ((Below.refl _ _).alloc (Nat.le_refl _) _)) (MkR.new (W := [1, 98]) rfl hS.size)
 )
 iterate 5 first
  | (refine G.chain_skip (by rfl) (by rfl) ?_)
  | (apply G.chain_want (by rfl)
     ·intro act wx hS hr
      simp at hr
      have HA := HZ.out.later hS.below
      have e0 := HA.o.load
      have e1 := HA.s.load
      have e2 := HA.f.load
      obtain ⟨t0, t1, t2, t3, t4⟩ := akc1 HA.v1
      obtain ⟨s0, s1, s2, s3, s4⟩ := akc2 HA.v2
      go_simp
      (try go_ints)
      first
       | (obtain ⟨hr0, u, hr1, hu⟩ := hr; simp only [hr1, Option.getD_some]; (with_reducible refine (CA.out _ _ HA (hu.isW (by decide))).mono ?_); rintro e w5 ⟨rfl, hb5⟩; exact G.Done.mk (Mk.of _ _ hb5))
       | (obtain ⟨hr0, u, hr1, hu⟩ := hr; simp only [hr1, Option.getD_some]; (with_reducible refine (CB.out _ _ HA (hu.isW (by decide))).mono ?_); rintro e w5 ⟨rfl, hb5⟩; exact G.Done.mk (Mk.of _ _ hb5))
       | ((with_reducible refine (CE.out _ HA).mono ?_); rintro e w5 ⟨rfl, hb5⟩; exact G.Done.mk (Mk.of _ _ hb5))
       | ((with_reducible refine (CH.out _ HA).mono ?_); rintro e w5 ⟨rfl, hb5⟩; exact G.Done.mk (Mk.of _ _ hb5))
       | (obtain ⟨hr0, u, hr1, hu⟩ := hr; simp only [hr1, Option.getD_some]; (with_reducible refine (CS.out _ _ HA (hu.isW (by decide))).mono ?_); rintro e w5 ⟨rfl, hb5⟩; exact G.Done.mk (Mk.of _ _ hb5))
       | (obtain ⟨hr0, u, hr1, hu⟩ := hr; simp only [hr1, Option.getD_some]; (with_reducible refine (CF.out _ _ HA (hu.isW (by decide))).mono ?_); rintro e w5 ⟨rfl, hb5⟩; exact G.Done.mk (Mk.of _ _ hb5))
       | (obtain ⟨hr0, u, hr1, hu⟩ := hr; simp only [hr1, Option.getD_some]; (with_reducible refine (CG.out _ _ HA (hu.isW (by decide))).mono ?_); rintro e w5 ⟨rfl, hb5⟩; exact G.Done.mk (Mk.of _ _ hb5))
       | ((with_reducible refine (CM.out _ HA).mono ?_); rintro e w5 ⟨rfl, hb5⟩; exact G.Done.mk (Mk.of _ _ hb5))
       | exact G.Done.same HMK.out
    )
 (refine G.chain_rel (MkR w8.heap.size [2, 98]) (MkR.keep w8.heap.size [2, 98]) (by rfl) ?_ ?_
  ·intro act wx hS hr
   simp at hr
   have HA := HZ.out.later hS.below
   have e0 := HA.o.load
   have e1 := HA.s.load
   have e2 := HA.f.load
   obtain ⟨t0, t1, t2, t3, t4⟩ := akc1 HA.v1
   obtain ⟨s0, s1, s2, s3, s4⟩ := akc2 HA.v2
   all_goals go_simp
   exact G.Done.rel (Mk.of _ _ ((Below.refl _ _).alloc (Nat.le_refl _) _)) (MkR.new (W := [2, 98]) rfl hS.size)
 )
 iterate 27 first
  | (refine G.chain_skip (by rfl) (by rfl) ?_)
  | (apply G.chain_want (by rfl)
     ·intro act wx hS hr
      simp at hr
      have HA := HZ.out.later hS.below
      have e0 := HA.o.load
      have e1 := HA.s.load
      have e2 := HA.f.load
      obtain ⟨t0, t1, t2, t3, t4⟩ := akc1 HA.v1
      obtain ⟨s0, s1, s2, s3, s4⟩ := akc2 HA.v2
      go_simp
      (try go_ints)
      first
       | (obtain ⟨hr0, u, hr1, hu⟩ := hr; simp only [hr1, Option.getD_some]; (with_reducible refine (CA.out _ _ HA (hu.isW (by decide))).mono ?_); rintro e w5 ⟨rfl, hb5⟩; exact G.Done.mk (Mk.of _ _ hb5))
       | (obtain ⟨hr0, u, hr1, hu⟩ := hr; simp only [hr1, Option.getD_some]; (with_reducible refine (CB.out _ _ HA (hu.isW (by decide))).mono ?_); rintro e w5 ⟨rfl, hb5⟩; exact G.Done.mk (Mk.of _ _ hb5))
       | ((with_reducible refine (CE.out _ HA).mono ?_); rintro e w5 ⟨rfl, hb5⟩; exact G.Done.mk (Mk.of _ _ hb5))
       | ((with_reducible refine (CH.out _ HA).mono ?_); rintro e w5 ⟨rfl, hb5⟩; exact G.Done.mk (Mk.of _ _ hb5))
       | (obtain ⟨hr0, u, hr1, hu⟩ := hr; simp only [hr1, Option.getD_some]; (with_reducible refine (CS.out _ _ HA (hu.isW (by decide))).mono ?_); rintro e w5 ⟨rfl, hb5⟩; exact G.Done.mk (Mk.of _ _ hb5))
       | (obtain ⟨hr0, u, hr1, hu⟩ := hr; simp only [hr1, Option.getD_some]; (with_reducible refine (CF.out _ _ HA (hu.isW (by decide))).mono ?_); rintro e w5 ⟨rfl, hb5⟩; exact G.Done.mk (Mk.of _ _ hb5))
       | (obtain ⟨hr0, u, hr1, hu⟩ := hr; simp only [hr1, Option.getD_some]; (with_reducible refine (CG.out _ _ HA (hu.isW (by decide))).mono ?_); rintro e w5 ⟨rfl, hb5⟩; exact G.Done.mk (Mk.of _ _ hb5))
       | ((with_reducible refine (CM.out _ HA).mono ?_); rintro e w5 ⟨rfl, hb5⟩; exact G.Done.mk (Mk.of _ _ hb5))
       | exact G.Done.same HMK.out
    )
 (refine G.chain_rel (EmV) (EmV.keep (Mk w8.heap.size)) (by rfl) ?_ ?_
  ·intro act wx hS hr
   simp at hr
   have HA := HZ.out.later hS.below
   have e0 := HA.o.load
   have e1 := HA.s.load
   have e2 := HA.f.load
   obtain ⟨t0, t1, t2, t3, t4⟩ := akc1 HA.v1
   obtain ⟨s0, s1, s2, s3, s4⟩ := akc2 HA.v2
   all_goals go_simp
   ((with_reducible refine (CN.out _ HA).mono ?_); rintro e w5 ⟨v5, rfl, ⟨A5, c5, hv5, -⟩, hb5⟩; exact G.Done.rel (Mk.of _ _ hb5) ⟨A5, c5, hv5⟩)
 )
 (refine G.chain_rel (EqV 0) (EqV.keep 0 (Mk w8.heap.size)) (by rfl) ?_ ?_
  ·intro act wx hS hr
   simp at hr
   have HA := HZ.out.later hS.below
   have e0 := HA.o.load
   have e1 := HA.s.load
   have e2 := HA.f.load
   obtain ⟨t0, t1, t2, t3, t4⟩ := akc1 HA.v1
   obtain ⟨s0, s1, s2, s3, s4⟩ := akc2 HA.v2
   obtain ⟨u, hr1, A5, c5, rfl⟩ := hr
   all_goals go_simp
   exact G.Done.rel (Mk.of _ _ (Below.refl _ _)) rfl
 )
 (refine G.chain_rel (TrV) (TrV.keep (Mk w8.heap.size)) (by rfl) ?_ ?_
  ·intro act wx hS hr
   simp at hr
   have HA := HZ.out.later hS.below
   have e0 := HA.o.load
   have e1 := HA.s.load
   have e2 := HA.f.load
   obtain ⟨t0, t1, t2, t3, t4⟩ := akc1 HA.v1
   obtain ⟨s0, s1, s2, s3, s4⟩ := akc2 HA.v2
   obtain ⟨u, hr1, hu⟩ := hr
   unfold EqV at hu
   subst hu
   all_goals go_simp
   exact G.Done.rel (Mk.of _ _ (Below.refl _ _)) rfl
 )
 (refine G.chain_rel (TrV) (TrV.keep (Mk w8.heap.size)) (by rfl) ?_ ?_
  ·intro act wx hS hr
   simp at hr
   have HA := HZ.out.later hS.below
   have e0 := HA.o.load
   have e1 := HA.s.load
   have e2 := HA.f.load
   obtain ⟨t0, t1, t2, t3, t4⟩ := akc1 HA.v1
   obtain ⟨s0, s1, s2, s3, s4⟩ := akc2 HA.v2
   obtain ⟨hr0, u, hr1, hu⟩ := hr
   unfold TrV at hu
   subst hu
   all_goals go_simp
   exact G.Done.rel (Mk.of _ _ (Below.refl _ _)) rfl
 )
 (refine G.chain_rel (TrV) (TrV.keep (Mk w8.heap.size)) (by rfl) ?_ ?_
  ·intro act wx hS hr
   simp at hr
   have HA := HZ.out.later hS.below
   have e0 := HA.o.load
   have e1 := HA.s.load
   have e2 := HA.f.load
   obtain ⟨t0, t1, t2, t3, t4⟩ := akc1 HA.v1
   obtain ⟨s0, s1, s2, s3, s4⟩ := akc2 HA.v2
   obtain ⟨u, hr1, hu⟩ := hr
   all_goals go_simp
   exact G.Done.rel (Mk.of _ _ (Below.refl _ _)) hu
 )
 show ∀ w', _ -> _
 intro w9 hw9
 simp [Act.put]
 case hS => exact Mk.of _ _ (Below.refl _ _)
 intro q1 _ q2 _ q7 _ q8 _ q23 _ q24 _ q30 _ q36 _ q64 _ q65 _ q66 _ q67 _ q68 h68
 unfold TrV at h68
 subst h68
 have HEND := Lib.hid (HZ.out.later hw9.below)
 clear hw9 HZ HMK CA CB CE CH CS CF CG CM CN
 go_wp2
 go_ret
 exact ⟨rfl, HEND.out.bel⟩
end Go.Proofs.Ytpbbokdmoaadfaa
namespace Go.Proofs.Ytpbbokdmoaadfaa
set_option maxHeartbeats 64000000
set_option maxRecDepth 1000000
set_option linter.all false
open Go
theorem big_two {α : Type} {l : List α} (h : l.length = 2) : ∃ a b, l = [a, b] := by
 match l, h with
 | [a, b], _ => exact ⟨a, b, rfl⟩
theorem sum_big (s : Nat) : ∀ (us : List Wd) (vs : List Vl), us.length = vs.length -> (∀ j, j < us.length -> cntV (vs.getD j vl0) <= s * (us.getD j []).length) -> (vs.map cntV).sum <= s * us.flatten.length := fun us => by
 induction us with
 | nil =>
  intro vs h _
  have : vs = [] := List.length_eq_zero_iff.1 (by simpa using h.symm)
  subst this; simp
 | cons u us ihu =>
  intro vs hl hh
  cases vs with
  | nil => cases hl
  | cons y vs =>
   have h0 := hh 0 (by simp)
   have h2 := ihu vs (by simpa using hl) (fun j hj => by have := hh (j + 1) (by simpa using hj); simpa using this)
   rw [List.flatten_cons, List.length_append, List.map_cons, List.sum_cons, Nat.mul_add]
   simp at h0
   omega
theorem wr_big {l : List Nd} (hF : Form l) : ∀ (v : Vl) (i : Nat) (u : Wd), i < l.length -> wrV l i v = some u -> cntV v <= (i + 1 - firstP l i) * max u.length 1 := fun v => by
 induction v using Vl.kids_ind with
 | h v ih =>
  intro i u hi hw
  obtain ⟨hh, ws, hl, hk, hne, hc⟩ := wrV_some hw
  have hle := firstP_le l i
  have IH : ∀ j p w, j < v.kids.len -> p < l.length -> wrV l p (v.kids.at j) = some w -> cntV (v.kids.at j) <= (p + 1 - firstP l p) * max w.length 1 := fun j p w hj hp h =>
   ih _ (List.mem_of_getElem? (Vs.at_get hj)) p w hp h
  have hm1 : 1 <= max u.length 1 := Nat.le_max_right _ _
  have ho := hF.2.1 i hi
  obtain ⟨n, hn⟩ : ∃ n, atN l i = n := ⟨_, rfl⟩
  rw [hn] at ho hh hk hne hc
  have hcs := ho.cs hn
  unfold headV at hh
  obtain ⟨a1, a2, a3, a4, a5, a6, a7, a8, a9⟩ := hh
  unfold capW at hc
  cases hcs with
  | leaf h1 hf =>
   unfold leafK at h1
   have h0 : v.kids.len = 0 := a6 (by omega)
   have hs : cntVs v.kids = 0 := by
    rw [cntVs_list, List.length_eq_zero_iff.1 (show v.kids.list.length = 0 from h0)]; rfl
   unfold cntV
   rw [hs]
   exact Nat.le_trans (by omega) (Nat.mul_le_mul (show 1 <= i + 1 - firstP l i by omega) hm1)
  | one h1 hi0 ha hb h7 hr hcl hf =>
   obtain ⟨p, hp⟩ : ∃ p : Nat, n.a = (p : Int) := ⟨n.a.toNat, by omega⟩
   have hkid : ∀ j, (kidN n v.pick j).toNat = p := fun j => by unfold kidN; rw [if_neg (by omega)]; omega
   have hpi : p < l.length := by omega
   have hf2 := firstP_le l p
   have hfe : firstP l i = firstP l p := by rw [hf]; congr 1; omega
   have hsz : i + 1 - firstP l i = (p + 1 - firstP l p) + 1 := by omega
   rw [hsz]
   by_cases h67 : n.kind = 6 \/ n.kind = 7
   ·rw [if_neg (by omega), if_neg (by omega), if_neg (by omega), if_neg (by omega)] at hc
    injection hc with hc
    have hsum := sum_big (p + 1 - firstP l p) ws v.kids.list (by rw [hl]; rfl) (fun j hj => by
     have hj2 : j < v.kids.len := by omega
     have h2 := hk j hj2
     rw [hkid] at h2
     have h3 := IH j p _ hj2 hpi h2
     have h4 : ws.getD j [] ≠ [] := hne h67 _ (by rw [List.getD_eq_getElem?_getD, List.getElem?_eq_getElem hj]; exact List.getElem_mem hj)
     have h5 : 1 <= (ws.getD j []).length := by
      cases h6 : ws.getD j [] with
      | nil => exact absurd h6 h4
      | cons x xs => simp
     rw [Nat.max_eq_left h5] at h3
     exact h3)
    rw [hc, <- cntVs_list] at hsum
    have := Nat.mul_le_mul_left (p + 1 - firstP l p) (Nat.le_max_left u.length 1)
    unfold cntV
    rw [Nat.add_mul]
    omega
   ·have h0 : v.kids.len = 1 := a8 (by omega)
    have h2 := hk 0 (by omega)
    rw [hkid] at h2
    have h3 := IH 0 p _ (by omega) hpi h2
    have hs : cntVs v.kids = cntV (v.kids.at 0) := by
     rw [cntVs_list]
     have := Vs.at_get (s := v.kids) (i := 0) (by omega)
     obtain ⟨y, hy⟩ : ∃ y, v.kids.list = [y] := List.length_eq_one_iff.1 h0
     rw [hy] at this ⊢
     injection this with this
     rw [<- this]; simp
    obtain ⟨z, hz⟩ : ∃ z, ws = [z] := List.length_eq_one_iff.1 (hl.trans h0)
    have hzu : z.length <= u.length := by
     rw [hz] at hc
     rw [if_neg (by omega), if_neg (by omega)] at hc
     simp only [List.flatten_cons, List.flatten_nil, List.append_nil] at hc
     by_cases h8 : n.kind = 8
     ·rw [if_pos h8] at hc
      split at hc
      ·injection hc with hc; rw [<- hc]; simp
      ·cases hc
     ·rw [if_neg h8, if_pos (by omega)] at hc
      split at hc
      ·injection hc with hc; rw [<- hc]; simp; omega
      ·cases hc
    rw [hz] at h3
    have h3' : cntV (v.kids.at 0) <= (p + 1 - firstP l p) * max z.length 1 := h3
    have := Nat.mul_le_mul_left (p + 1 - firstP l p) (show max z.length 1 <= max u.length 1 by omega)
    unfold cntV
    rw [Nat.add_mul]
    unfold cntV at h3'
    unfold cntV at hs
    omega
  | two h1 hi0 hb ha hf0 hl2 hcl hf =>
   obtain ⟨p, hp⟩ : ∃ p : Nat, n.a = (p : Int) := ⟨n.a.toNat, by omega⟩
   obtain ⟨q, hq⟩ : ∃ q : Nat, n.b = (q : Int) := ⟨n.b.toNat, by omega⟩
   have hfa := firstP_le l p
   have hfb := firstP_le l q
   have hqi : q + 1 = i := by omega
   have hpq : p + 1 = firstP l q := by
    have : firstP l (i - 1) = firstP l q := by congr 1; omega
    omega
   have hsz : i + 1 - firstP l i = (p + 1 - firstP l p) + (q + 1 - firstP l q) + 1 := by
    have : firstP l i = firstP l p := by rw [hf]; congr 1; omega
    omega
   rw [hsz]
   rw [if_neg (by omega), if_neg (by omega), if_neg (by omega), if_neg (by omega)] at hc
   injection hc with hc
   rw [Nat.add_mul, Nat.add_mul]
   rcases h1 with h4 | h5
   ·have h0 : v.kids.len = 2 := a7 h4
    have k0 : (kidN n v.pick 0).toNat = p := by unfold kidN; rw [if_neg (by omega)]; omega
    have k1 : (kidN n v.pick 1).toNat = q := by unfold kidN; rw [if_pos (.inl ⟨h4, rfl⟩)]; omega
    have e0 := hk 0 (by omega)
    have e1 := hk 1 (by omega)
    rw [k0] at e0
    rw [k1] at e1
    have g0 := IH 0 p _ (by omega) (by omega) e0
    have g1 := IH 1 q _ (by omega) (by omega) e1
    obtain ⟨y, z, hyz⟩ : ∃ y z, ws = [y, z] := big_two (hl.trans h0)
    obtain ⟨c, d, hcd⟩ : ∃ c d, v.kids.list = [c, d] := big_two (show v.kids.list.length = 2 from h0)
    have hs : cntVs v.kids = cntV (v.kids.at 0) + cntV (v.kids.at 1) := by
     rw [cntVs_list]
     unfold Vs.at
     rw [hcd]; simp
    rw [hyz] at g0 g1 hc
    have g0' : cntV (v.kids.at 0) <= (p + 1 - firstP l p) * max y.length 1 := g0
    have g1' : cntV (v.kids.at 1) <= (q + 1 - firstP l q) * max z.length 1 := g1
    have hu : y.length + z.length = u.length := by rw [<- hc]; simp
    have t0 := Nat.mul_le_mul_left (p + 1 - firstP l p) (show max y.length 1 <= max u.length 1 by omega)
    have t1 := Nat.mul_le_mul_left (q + 1 - firstP l q) (show max z.length 1 <= max u.length 1 by omega)
    have : cntV v = 1 + (cntV (v.kids.at 0) + cntV (v.kids.at 1)) := by rw [<- hs]; rfl
    omega
   ·have h0 : v.kids.len = 1 := a8 (.inl h5)
    obtain ⟨c, hcd⟩ : ∃ c, v.kids.list = [c] := List.length_eq_one_iff.1 h0
    obtain ⟨y, hy⟩ : ∃ y, ws = [y] := List.length_eq_one_iff.1 (hl.trans h0)
    have hs : cntV v = 1 + cntV (v.kids.at 0) := by
     show 1 + cntVs v.kids = _
     rw [cntVs_list]
     unfold Vs.at
     rw [hcd]; simp
    have hu : y.length = u.length := by rw [<- hc, hy]; simp
    have e0 := hk 0 (by omega)
    rw [hy] at e0
    have e0' : wrV l (kidN n v.pick 0).toNat (v.kids.at 0) = some y := e0
    have hz0 := Nat.zero_le ((p + 1 - firstP l p) * max u.length 1)
    have hz1 := Nat.zero_le ((q + 1 - firstP l q) * max u.length 1)
    rcases a5 with h9 | ⟨-, h9⟩
    ·have k0 : (kidN n v.pick 0).toNat = p := by unfold kidN; rw [if_neg (by omega)]; omega
     rw [k0] at e0'
     have g0 := IH 0 p _ (by omega) (by omega) e0'
     rw [hu] at g0
     omega
    ·have k0 : (kidN n v.pick 0).toNat = q := by unfold kidN; rw [if_pos (.inr ⟨h5, h9⟩)]; omega
     rw [k0] at e0'
     have g0 := IH 0 q _ (by omega) (by omega) e0'
     rw [hu] at g0
     omega
theorem wr_few {l : List Nd} (hF : Form l) {v : Vl} {u : Wd} (hn : l.length <= 16) (hu : u.length <= 8) (h : wrD l v = some u) : cntV v <= 128 := by
 have h1 := wr_big hF v (l.length - 1) u (by have := hF.1; omega) h
 have h2 : (l.length - 1 + 1 - firstP l (l.length - 1)) * max u.length 1 <= 16 * 8 := Nat.mul_le_mul (by omega) (by omega)
 omega
end Go.Proofs.Ytpbbokdmoaadfaa
namespace Go.Proofs.Ytpbbokdmoaadfaa
set_option maxHeartbeats 64000000
set_option maxRecDepth 1000000
set_option linter.all false
open Go Go.RowKit
theorem take_eq {α : Type} [Inhabited α] (z : α) {l m : List α} {k : Nat} (h1 : k < l.length) (h2 : k < m.length) (ht : l.take k = m.take k) (hx : l.getD k z = m.getD k z) : l.take (k + 1) = m.take (k + 1) := by
 rw [List.take_succ_eq_append_getElem h1, List.take_succ_eq_append_getElem h2, ht]
 have e1 : l.getD k z = l[k] := by simp [h1]
 have e2 : m.getD k z = m[k] := by simp [h2]
 rw [<- e1, <- e2, hx]
structure RowsB (w0 : World) (a b : Option Addr) (l m : List Nat) (w : World) : Prop where
 below : Below w0.heap.size w0 w
 r1 : Row8 w a l
 r2 : Row8 w b m
theorem RowsB.later {w0 w w' : World} {a b : Option Addr} {l m : List Nat} (h : RowsB w0 a b l m w) (hb : Below w.heap.size w w') : RowsB w0 a b l m w' :=
 ⟨h.below.trans (hb.mono h.below.size), h.r1.later' hb, h.r2.later' hb⟩
def BytL (w0 : World) (a b : Option Addr) (l m : List Nat) (i : Value) (w : World) : Prop := ∃ k, k <= l.length /\ i = .int .i64 k /\ l.take k = m.take k /\ RowsB w0 a b l m w
theorem refbytes_any (l m : List Nat) (a b : Option Addr) (c1 c2 : Nat) (w : World) (h1 : Row8 w a l) (h2 : Row8 w b m) (hl : l.length < 1073741824) (hm : m.length < 1073741824) :
 Calls Try.prog 19 #[.slice a l.length c1, .slice b m.length c2] w (Ans w (.bool (l == m))) := by
 by_cases hne : l.length = m.length
 ·have H := Lib.hid (RowsB.mk (Below.refl w.heap.size w) h1 h2)
  have HNE := Lib.hid hne
  have hlz : ((l.length : Int) != (m.length : Int)) = false := by rw [bne_eq_false_iff_eq]; omega
  obtain ⟨r, hr⟩ : ∃ r, (l == m) = r := ⟨_, rfl⟩
  rw [hr]
  have HR := Lib.hid hr
  clear h1 h2 hne hr
  go_enter Try.func19, Try.ntmps19
  go_wp2
  go_loopw [5] (BytL w a b l m) (fun i _ => l.length - (intOf i).toNat)
  case atStart => exact ⟨0, Nat.zero_le _, rfl, rfl, H.out⟩
  case round =>
   obtain ⟨k, hk, rfl, ht, hS⟩ := hrel
   have HS := Lib.hid hS
   have HT := Lib.hid ht
   clear hS ht H
   by_cases hlt : k < l.length
   ·have hltz : (k : Int) < (l.length : Int) := by omega
    have hkm : k < m.length := by have := HNE.out; omega
    have hkmz : (k : Int) < (m.length : Int) := by omega
    obtain ⟨b1, o1, ha, hb1, _⟩ := HS.out.r1.2.2 k hlt
    obtain ⟨b2, o2, hb, hb2, _⟩ := HS.out.r2.2.2 k hkm
    subst ha hb
    have f1 : ∀ w, Row8 w (some ⟨b1, o1, none⟩) l -> w.cell? ⟨b1, o1 + k, none⟩ = some (.int .u8 ((l.getD k 0 : Nat) : Int)) := fun w h => by
     obtain ⟨b, o, e, _, h⟩ := h.2.2 k hlt; cases e; exact h
    have f2 : ∀ w, Row8 w (some ⟨b2, o2, none⟩) m -> w.cell? ⟨b2, o2 + k, none⟩ = some (.int .u8 ((m.getD k 0 : Nat) : Int)) := fun w h => by
     obtain ⟨b, o, e, _, h⟩ := h.2.2 k hkm; cases e; exact h
    have F1 := Lib.hid f1
    have F2 := Lib.hid f2
    clear f1 f2
    have HE : Hid (l.getD k 0 = m.getD k 0 -> l.take (k + 1) = m.take (k + 1)) := fun hx => take_eq _ hlt hkm HT.out hx
    have HD : Hid (l.getD k 0 ≠ m.getD k 0 -> r = false) := fun hx => by
     rw [<- HR.out, beq_eq_false_iff_ne]; intro e; exact hx (by rw [e])
    generalize l.getD k 0 = x at *
    generalize m.getD k 0 = y at *
    by_cases hxy : x = y
    ·have HE2 := Lib.hid (HE.out hxy)
     have hxz : ((x : Int) != (y : Int)) = false := by rw [bne_eq_false_iff_eq]; omega
     clear hxy HE HD
     go_upto_region 6 with (fail)
     refine wp_region_stable (S := (RowsB w (some ⟨b1, o1, none⟩) (some ⟨b2, o2, none⟩) l m)) (hSt := fun _ _ h hb => h.later hb) (plan := [[(0, none)], [(5, none)], [(17, some 0), (18, some 1)], [(19, some 2)], [(1, none)], [(5, none)], [(21, some 4), (22, some 5)], [(23, some 6)], [(20, some 3), (24, some 7)]]) (by kernel_rfl) (by kernel_rfl) (by kernel_rfl) ?hS ?_
     rotate_left
     iterate 9 first
      | (refine chain_skip (by rfl) (by rfl) ?_)
      | (apply chain_want (by rfl)
         ·intro act wx hS hr
          simp at hr
          have h1 := F1.out _ hS.r1
          have h2 := F2.out _ hS.r2
          go_simp
          (try go_ints)
          first
           | exact Done.same
        )
     show ∀ w', _ -> _
     intro wz hz
     simp [Act.put]
     case hS => exact HS.out
     have HZ := Lib.hid hz
     clear hz
     go_wp2
     go_roundw
     case rel => exact ⟨k + 1, by omega, by go_num, HE2.out, HZ.out⟩
     case measure => simp [intOf]; omega
    ·have hrf := HD.out hxy
     subst hrf
     have hxz : ((x : Int) != (y : Int)) = true := by rw [bne_iff_ne]; omega
     go_upto_region 6 with (fail)
     refine wp_region_stable (S := (RowsB w (some ⟨b1, o1, none⟩) (some ⟨b2, o2, none⟩) l m)) (hSt := fun _ _ h hb => h.later hb) (plan := [[(0, none)], [(5, none)], [(17, some 0), (18, some 1)], [(19, some 2)], [(1, none)], [(5, none)], [(21, some 4), (22, some 5)], [(23, some 6)], [(20, some 3), (24, some 7)]]) (by kernel_rfl) (by kernel_rfl) (by kernel_rfl) ?hS ?_
     rotate_left
     iterate 9 first
      | (refine chain_skip (by rfl) (by rfl) ?_)
      | (apply chain_want (by rfl)
         ·intro act wx hS hr
          simp at hr
          have h1 := F1.out _ hS.r1
          have h2 := F2.out _ hS.r2
          go_simp
          (try go_ints)
          first
           | exact Done.same
        )
     show ∀ w', _ -> _
     intro wz hz
     simp [Act.put]
     case hS => exact HS.out
     have HZ := Lib.hid hz
     clear hz
     go_wp2
     go_ret
     exact ⟨rfl, HZ.out.below⟩
   ·obtain rfl : k = l.length := by omega
    have hrt : r = true := by
     rw [<- HR.out, beq_iff_eq]
     have := HT.out
     rwa [List.take_length, HNE.out, List.take_length] at this
    subst hrt
    go_wp2
    go_ret
    exact ⟨rfl, HS.out.below⟩
 ·have hz : ((l.length : Int) != (m.length : Int)) = true := by rw [bne_iff_ne]; omega
  have hr : (l == m) = false := by rw [beq_eq_false_iff_ne]; intro e; exact hne (by rw [e])
  rw [hr]
  clear h1 h2 hne hr
  go_enter Try.func19, Try.ntmps19
  go_wp2
  go_ret
  exact ⟨rfl, Below.refl _ _⟩
end Go.Proofs.Ytpbbokdmoaadfaa
