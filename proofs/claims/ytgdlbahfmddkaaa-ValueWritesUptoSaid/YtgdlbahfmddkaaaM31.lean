/- What the statements of layer 11 ask of words: plain mathematics. -/
import Derived.Test.YtgdlbahfmddkaaaM20
import Derived.Test.YtgdlbahfmddkaaaM30
import Derived.Test.YtgdlbahfmddkaaaM19
namespace Go.Proofs.Ytgdlbahfmddkaaa
open Go
set_option linter.unusedVariables false
set_option linter.unusedSimpArgs false

theorem wr_head {l : List Nd} {i : Nat} {v : Vl} {w : Wd} (h : wrV l i v = some w) : headV (atN l i) v.kind v.byte v.text v.pick v.kids.len := (wrV_some h).1
theorem kind_range {l : List Nd} (hF : Form l) {i : Nat} (hi : i < l.length) : 1 ≤ (atN l i).kind ∧ (atN l i).kind ≤ 9 := by
  obtain ⟨-, hk⟩ := hF.2.1 i hi
  omega
/-- With another pick. -/
theorem only_pick {l : List Nd} {i : Nat} {v : Vl} {w : Wd} (h : wrV l i v = some w) : (v.pick = 0 ∨ v.pick = 1) ∧ (v.kind ≠ 5 → wrV l i { v with pick := v.pick + 1 } = none) := by
  have hh := wr_head h
  unfold headV at hh
  obtain ⟨h1, -, -, -, h5, -⟩ := hh
  refine ⟨by omega, fun hk => wr_none (fun h2 => ?_)⟩
  unfold headV at h2
  obtain ⟨-, -, -, -, k5, -⟩ := h2
  simp only at k5
  omega
end Go.Proofs.Ytgdlbahfmddkaaa
/- The anchor of layer 11: its values and words. -/
namespace Go.Proofs.Ytgdlbahfmddkaaa
open Go
set_option linter.unusedVariables false
def avDn : Nd := ⟨2, 0, 0, 0, 0, rowB 0 7, []⟩
def avD : List Nd := [avDn]
def avS : List Nd := wrapL 6 0 0 avD
def avF : List Nd := wrapL 8 0 0 avS
def avW : List Nd := wrapL 9 0 0 avS
def av7 : Vl := ⟨2, 7, [], 0, .nil⟩
def av8 : Vl := ⟨2, 8, [], 0, .nil⟩
def avT : Vl := ⟨6, 0, [], 0, Vs.of [av7, av7]⟩
def avE : Vl := ⟨6, 0, [], 0, .nil⟩
def avX : Vl := ⟨8, 0, [], 0, Vs.of [avT]⟩
def avY : Vl := ⟨9, 0, [], 0, Vs.of [avT]⟩
theorem av_F : wrD avF avX = some [2, 7, 7] := by kernel_rfl
theorem av_D : wrD avD av8 = none := by kernel_rfl
theorem av_S : wrD avS av7 = none := by kernel_rfl
theorem av_E : wrD avS avE = some [] := by kernel_rfl
theorem av_W : wrD avW avY = some [0, 2, 7, 7] := by kernel_rfl
theorem av_same : sameV avT avT = true := sameV_t rfl
theorem av_other : sameV avT av7 = false := sameV_f (fun e => by injection e with h; cases h)
end Go.Proofs.Ytgdlbahfmddkaaa
/- The anchor of layer 7. -/
namespace Go.Proofs.Ytgdlbahfmddkaaa
open Go Go.RowKit
set_option linter.unusedVariables false
set_option linter.unusedSimpArgs false

/-- A description in a box. -/
structure Dx (b : Nat) (A : Option Addr) (l : List Nd) (n c : Nat) (w : World) : Prop where
  cap : l.length ≤ c
  len : l.length = n
  box : Blk w b #[.slice A n c] 24
  row : NRow w A l
theorem Dx.later {b : Nat} {A : Option Addr} {l : List Nd} {n c : Nat} {w w' : World} (h : Dx b A l n c w) (hb : Below w.heap.size w w') : Dx b A l n c w' := ⟨h.cap, h.len, h.box.later hb, h.row.later hb⟩
theorem Dx.isD {b : Nat} {A : Option Addr} {l : List Nd} {n c : Nat} {w : World} (h : Dx b A l n c w) : IsD l (.agg #[.slice A n c]) w := ⟨A, c, h.cap, by rw [h.len], h.row⟩
theorem Dx.load {b : Nat} {A : Option Addr} {l : List Nd} {n c : Nat} {w : World} (h : Dx b A l n c w) : w.cell? ⟨b, 0, none⟩ = some (.slice A n c) := by
  have := h.box.cell 0; simpa using this
theorem nrow_one {n : Nd} {b : Nat} {w : World} (h : Blk w b (ndC n) 44) : NRow w (some ⟨b, 0, none⟩) [n] := fun i hi => by
  obtain rfl : i = 0 := by simpa using hi
  exact ⟨b, 0, rfl, h.lt, fun j _ => by rw [h.cell]; simp⟩
theorem dx_one (n : Nd) (w : World) {cs : Array Value} (hc : ndC n = cs) : Dx (w.heap.size + 1) (some ⟨w.heap.size, 0, none⟩) [n] 1 1 ((w.alloc (.cells cs 44)).alloc (.cells #[.slice (some ⟨w.heap.size, 0, none⟩) 1 1] 24)) ∧ Below w.heap.size w ((w.alloc (.cells cs 44)).alloc (.cells #[.slice (some ⟨w.heap.size, 0, none⟩) 1 1] 24)) := by
  subst hc
  exact ⟨⟨by simp, rfl, Blk.new' (by simp) _ _, nrow_one ((Blk.new w _ _).alloc _)⟩, ((Below.refl w.heap.size w).alloc (Nat.le_refl _) _).alloc (by simp) _⟩
theorem dx_of {l : List Nd} {w : World} {A : Option Addr} {n c : Nat} (hr : NRow w A l) (hl : l.length = n) (hc : n ≤ c) : Dx w.heap.size A l n c (w.alloc (.cells #[.slice A n c] 24)) :=
  ⟨by omega, hl, Blk.new w _ _, hr.later ((Below.refl w.heap.size w).alloc (Nat.le_refl _) _)⟩
end Go.Proofs.Ytgdlbahfmddkaaa
/- The anchor of layer 11, walked, of a program that writes, counts and compares values as it should. -/
namespace Go.Proofs.Ytgdlbahfmddkaaa
open Go Go.RowKit
set_option linter.unusedVariables false
set_option linter.unusedSimpArgs false
set_option maxRecDepth 100000

theorem avD_sp : Sp avD := sp_one ⟨rfl, .inr (.inl rfl)⟩ (.inr (.inl rfl)) (by decide)
theorem avS_sp : Sp avS := avD_sp.wrap (by decide) (.inl rfl)
theorem avF_sp : Sp avF := avS_sp.wrap (by decide) (.inr (.inl rfl))
theorem avW_sp : Sp avW := avS_sp.wrap (by decide) (.inr (.inr rfl))
theorem avD_tx : ∀ n ∈ avD, n.text.length ≤ 2000 := fun n hn => by rw [List.mem_singleton.1 hn]; decide
theorem wrap_tx {l : List Nd} {k lo hi : Int} (h : ∀ n ∈ l, n.text.length ≤ 2000) : ∀ n ∈ wrapL k lo hi l, n.text.length ≤ 2000 := fun n hn => by
  unfold wrapL at hn
  rcases List.mem_append.1 hn with h1 | h1
  · exact h n h1
  · rw [List.mem_singleton.1 h1]; simp
/-- One value, two, in a row of their own. -/
theorem vrow1 {w : World} {g : Nat} {v : Vl} {B : Option Addr} {c : Nat} (h : Blk w g (vlC v B c) 27) (hc : v.kids.len ≤ c) (hr : VRow w B 0 v.kids) : VRow w (some ⟨g, 0, none⟩) 0 (Vs.of [v]) :=
  VRow.of h.lt (fun j hj => by
    obtain rfl : j = 0 := by simpa [Vs.len, Vs.list_of] using hj
    exact ⟨B, c, hc, fun q hq => by simp only [Nat.zero_add, Nat.zero_mul]; exact h.cell q, hr⟩)
theorem vrow2 {w : World} {g : Nat} {v u : Vl} {B D : Option Addr} {c d : Nat} (h : Blk w g (vlC v B c ++ vlC u D d) 27) (hc : v.kids.len ≤ c) (hd : u.kids.len ≤ d) (hr : VRow w B 0 v.kids) (hs : VRow w D 0 u.kids) : VRow w (some ⟨g, 0, none⟩) 0 (Vs.of [v, u]) :=
  VRow.of h.lt (fun j hj => by
    have hj : j < 2 := by simpa [Vs.len, Vs.list_of] using hj
    rcases (by omega : j = 0 ∨ j = 1) with rfl | rfl
    · exact ⟨B, c, hc, fun q hq => by
        simp only [Nat.zero_add, Nat.zero_mul]
        rw [h.cell, Array.getElem?_append_left (by show q < 5; omega)]; rfl, hr⟩
    · exact ⟨D, d, hd, fun q hq => by
        rw [h.cell, Array.getElem?_append_right (by show 5 ≤ _; omega)]
        show (vlC u D d)[0 + (0 + 1) * 5 + q - 5]? = _
        congr 1; omega, hs⟩)
theorem WriteC.isD (HW : WriteC) {l : List Nd} {x u : Value} {w : World} {v : Vl} {r : Option Wd} (h : IsD l x w) (hs : Sp l) (ht : ∀ n ∈ l, n.text.length ≤ 2000) (hv : cntV v ≤ 100000) (hu : IsV w u v) (hr : wrD l v = r) : Calls Try.prog 11 #[x, u] w (PrV w r) := by
  obtain ⟨A, c, hc, rfl, hrow⟩ := h
  rw [← hr]
  exact HW l A c v u w hs.sm.form hc (by have := hs.sm.len; omega) ht hv hrow hu
/-- The boxes. -/
structure AvS (w0 : World) (bd : Nat) (Ad : Option Addr) (bs_ : Nat) (As : Option Addr) (cs : Nat) (bf : Nat) (Af : Option Addr) (cf : Nat) (b7 bt bk : Nat) (w : World) : Prop where
  bel : Below w0.heap.size w0 w
  d : Dx bd Ad avD 1 1 w
  s : Dx bs_ As avS 2 cs w
  f : Dx bf Af avF 3 cf w
  v : Blk w b7 (vlC av7 none 0) 27
  t : Blk w bt (vlC avT (some ⟨bk, 0, none⟩) 2) 27
  k : VRow w (some ⟨bk, 0, none⟩) 0 avT.kids
theorem AvS.later {w0 w w' : World} {bd : Nat} {Ad : Option Addr} {bs_ : Nat} {As : Option Addr} {cs : Nat} {bf : Nat} {Af : Option Addr} {cf b7 bt bk : Nat} (h : AvS w0 bd Ad bs_ As cs bf Af cf b7 bt bk w) (hb : Below w.heap.size w w') : AvS w0 bd Ad bs_ As cs bf Af cf b7 bt bk w' :=
  ⟨h.bel.trans (hb.mono h.bel.size), h.d.later hb, h.s.later hb, h.f.later hb, h.v.later hb, h.t.later hb, h.k.later hb⟩
theorem AvS.isT {w0 w : World} {bd : Nat} {Ad : Option Addr} {bs_ : Nat} {As : Option Addr} {cs : Nat} {bf : Nat} {Af : Option Addr} {cf b7 bt bk : Nat} (h : AvS w0 bd Ad bs_ As cs bf Af cf b7 bt bk w) : IsV w (.agg (vlC avT (some ⟨bk, 0, none⟩) 2)) avT := ⟨_, 2, by decide, rfl, h.k⟩
/-- And a word. -/
structure AvX (w0 : World) (bd : Nat) (Ad : Option Addr) (bs_ : Nat) (As : Option Addr) (cs : Nat) (bf : Nat) (Af : Option Addr) (cf : Nat) (b7 bt bk : Nat) (x : Value) (w : World) : Prop where
  s : AvS w0 bd Ad bs_ As cs bf Af cf b7 bt bk w
  x : IsW [2, 7, 7] x w
theorem AvX.later {w0 w w' : World} {bd : Nat} {Ad : Option Addr} {bs_ : Nat} {As : Option Addr} {cs : Nat} {bf : Nat} {Af : Option Addr} {cf b7 bt bk : Nat} {x : Value} (h : AvX w0 bd Ad bs_ As cs bf Af cf b7 bt bk x w) (hb : Below w.heap.size w w') : AvX w0 bd Ad bs_ As cs bf Af cf b7 bt bk x w' := ⟨h.s.later hb, h.x.later hb⟩
def RowK (v : Value) (w : World) : Prop := ∃ g, v = .slice (some ⟨g, 0, none⟩) 1 1 ∧ VRow w (some ⟨g, 0, none⟩) 0 (Vs.of [avT])
theorem RowK.later : ∀ v w w', RowK v w → Below w.heap.size w w' → RowK v w' := fun v w w' ⟨g, h1, h2⟩ hb => ⟨g, h1, h2.later hb⟩
def IsVp (v : Vl) (u : Value) (w : World) : Prop := IsV w u v
theorem IsVp.later (v : Vl) : ∀ u w w', IsVp v u w → Below w.heap.size w w' → IsVp v u w' := fun u w w' h hb => IsV.later h hb
def IsWp (W : Wd) (u : Value) (w : World) : Prop := IsW W u w
theorem IsWp.later (W : Wd) : ∀ u w w', IsWp W u w → Below w.heap.size w w' → IsWp W u w' := fun u w w' h hb => IsW.later h hb
theorem TupV.later (r : Option Wd) : ∀ v w w', TupV r v w → Below w.heap.size w w' → TupV r v w' := fun v w w' ⟨sv, h1, h2⟩ hb => ⟨sv, h1, h2.later hb⟩
theorem isV_leaf (w : World) (k : Int) (b : UInt8) : IsV w (.agg (vlC ⟨k, b, [], 0, .nil⟩ none 0)) ⟨k, b, [], 0, .nil⟩ := ⟨none, 0, Nat.le_refl _, rfl, trivial⟩
set_option maxHeartbeats 16000000 in
set_option maxRecDepth 1000000 in
theorem awake11_any (HWR : WriteC) (HSM : SameC) (HMN : ManyC) (w : World) : Calls Try.prog 7 #[] w (Ans w (.bool true)) := by
  have CR : Hid (Calls Try.prog 22 #[.int .u8 0, .int .u8 7] w (Ans w (cls (rowB 0 7)))) := refrow_any 0 7 (by omega) (by omega) w
  unfold cls at CR
  have hnd : ndC avDn = #[.int .i64 2, .int .i64 0, .int .i64 0, .int .i64 0, .int .i64 0, .int .u64 (wd (rowB 0 7) 0), .int .u64 (wd (rowB 0 7) 1), .int .u64 (wd (rowB 0 7) 2), .int .u64 (wd (rowB 0 7) 3), .string ⟨#[]⟩] := rfl
  generalize wd (rowB 0 7) 0 = k0 at *
  generalize wd (rowB 0 7) 1 = k1 at *
  generalize wd (rowB 0 7) 2 = k2 at *
  generalize wd (rowB 0 7) 3 = k3 at *
  go_enter Try.func7, Try.ntmps7
  go_wp2_with fail
  refine CR.out.mono ?_; rintro e w0 ⟨rfl, hb0⟩
  have HB0 := Lib.hid hb0
  clear hb0 CR
  go_upto_region 2 with (fail)
  obtain ⟨ht, hb1⟩ := dx_one avDn w0 hnd
  have HD : Hid (Dx (w0.heap.size + 1) (some ⟨w0.heap.size, 0, none⟩) avD 1 1 _) := ht
  have HB2 := Lib.hid (HB0.out.trans (hb1.mono HB0.out.size))
  clear ht hb1 hnd HB0
  generalize (w0.alloc (.cells #[.int .i64 2, .int .i64 0, .int .i64 0, .int .i64 0, .int .i64 0, .int .u64 k0, .int .u64 k1, .int .u64 k2, .int .u64 k3, .string ⟨#[]⟩] 44)).alloc (.cells #[.slice (some ⟨w0.heap.size, 0, none⟩) 1 1] 24) = w1 at *
  generalize w0.heap.size + 1 = bd at *
  generalize (some ⟨w0.heap.size, 0, none⟩ : Option Addr) = Ad at *
  have e0 := HD.out.load
  have CALL := Lib.hid (HD.out.isD.rwrap avD_sp.sm 6 0 0)
  go_wp2_with fail
  refine CALL.out.mono ?_; intro e v hp; obtain ⟨s, rfl, ho, hb⟩ := hp
  obtain ⟨As, cs, hc, hv, hr⟩ := ho.isD
  have el : (wrapL 6 0 0 avD).length = 2 := rfl
  rw [el] at hc hv
  obtain rfl : s = .slice As 2 cs := by simpa using hv
  have hbb := hb.trans ((Below.refl _ _).alloc hb.size (.cells #[.slice As 2 cs] 24))
  have HN3 : Hid (Dx v.heap.size As avS 2 cs _) := dx_of hr el hc
  have Hd3 := Lib.hid (HD.out.later hbb)
  have B3 := Lib.hid (HB2.out.trans (hbb.mono HB2.out.size))
  clear HD HB2 CALL hb ho hr hv hc e0 el hbb
  go_upto_region 3 with (fail)
  generalize v.alloc (.cells #[.slice As 2 cs] 24) = w3 at *
  generalize v.heap.size = bs_ at *
  have e0 := Hd3.out.load
  have e1 := HN3.out.load
  have CALL := Lib.hid (HN3.out.isD.rwrap avS_sp.sm 8 0 0)
  go_wp2_with fail
  refine CALL.out.mono ?_; intro e v hp; obtain ⟨s, rfl, ho, hb⟩ := hp
  obtain ⟨Af, cf, hc, hv, hr⟩ := ho.isD
  have el : (wrapL 8 0 0 avS).length = 3 := rfl
  rw [el] at hc hv
  obtain rfl : s = .slice Af 3 cf := by simpa using hv
  have hbb := hb.trans ((Below.refl _ _).alloc hb.size (.cells #[.slice Af 3 cf] 24))
  have HN4 : Hid (Dx v.heap.size Af avF 3 cf _) := dx_of hr el hc
  have Hd4 := Lib.hid (Hd3.out.later hbb)
  have Hs4 := Lib.hid (HN3.out.later hbb)
  have B4 := Lib.hid (B3.out.trans (hbb.mono B3.out.size))
  clear Hd3 HN3 B3 CALL hb ho hr hv hc e0 e1 el hbb
  go_upto_region 4 with (fail)
  generalize v.alloc (.cells #[.slice Af 3 cf] 24) = w4 at *
  generalize v.heap.size = bf at *
  have hb5 := (Below.refl w4.heap.size w4).alloc (Nat.le_refl _) (.cells #[.int .i64 2, .int .u8 7, .string ⟨#[]⟩, .int .i64 0, .slice none 0 0] 27)
  have HV5 : Hid (Blk (w4.alloc (.cells #[.int .i64 2, .int .u8 7, .string ⟨#[]⟩, .int .i64 0, .slice none 0 0] 27)) w4.heap.size (vlC av7 none 0) 27) := Blk.new w4 _ _
  have Hd5 := Lib.hid (Hd4.out.later hb5)
  have Hs5 := Lib.hid (Hs4.out.later hb5)
  have Hf5 := Lib.hid (HN4.out.later hb5)
  have B5 := Lib.hid (B4.out.trans (hb5.mono B4.out.size))
  clear hb5 Hd4 Hs4 HN4 B4
  go_upto_region 5 with (fail)
  generalize w4.alloc (.cells #[.int .i64 2, .int .u8 7, .string ⟨#[]⟩, .int .i64 0, .slice none 0 0] 27) = w5 at *
  generalize w4.heap.size = b7 at *
  have e0 := HV5.out.cell 0
  have e1 := HV5.out.cell 1
  have e2 := HV5.out.cell 2
  have e3 := HV5.out.cell 3
  have e4 := HV5.out.cell 4
  simp [vlC, av7, bs_nil, Vs.len, Vs.list] at e0 e1 e2 e3 e4
  have hb6 := ((Below.refl w5.heap.size w5).alloc (Nat.le_refl _) (.cells #[.int .i64 2, .int .u8 7, .string ⟨#[]⟩, .int .i64 0, .slice none 0 0, .int .i64 2, .int .u8 7, .string ⟨#[]⟩, .int .i64 0, .slice none 0 0] 27)).alloc (by simp) (.cells #[.int .i64 6, .int .u8 0, .string ⟨#[]⟩, .int .i64 0, .slice (some ⟨w5.heap.size, 0, none⟩) 2 2] 27)
  have HK6 : Hid (VRow ((w5.alloc (.cells #[.int .i64 2, .int .u8 7, .string ⟨#[]⟩, .int .i64 0, .slice none 0 0, .int .i64 2, .int .u8 7, .string ⟨#[]⟩, .int .i64 0, .slice none 0 0] 27)).alloc (.cells #[.int .i64 6, .int .u8 0, .string ⟨#[]⟩, .int .i64 0, .slice (some ⟨w5.heap.size, 0, none⟩) 2 2] 27)) (some ⟨w5.heap.size, 0, none⟩) 0 avT.kids) :=
    vrow2 (v := av7) (u := av7) (B := none) (D := none) (c := 0) (d := 0) ((Blk.new w5 _ _).alloc _) (Nat.le_refl _) (Nat.le_refl _) trivial trivial
  have HT6 : Hid (Blk ((w5.alloc (.cells #[.int .i64 2, .int .u8 7, .string ⟨#[]⟩, .int .i64 0, .slice none 0 0, .int .i64 2, .int .u8 7, .string ⟨#[]⟩, .int .i64 0, .slice none 0 0] 27)).alloc (.cells #[.int .i64 6, .int .u8 0, .string ⟨#[]⟩, .int .i64 0, .slice (some ⟨w5.heap.size, 0, none⟩) 2 2] 27)) (w5.heap.size + 1) (vlC avT (some ⟨w5.heap.size, 0, none⟩) 2) 27) := Blk.new' (by simp) _ _
  have HS0 : Hid (AvS w bd Ad bs_ As cs bf Af cf b7 (w5.heap.size + 1) w5.heap.size _) := ⟨B5.out.trans (hb6.mono B5.out.size), Hd5.out.later hb6, Hs5.out.later hb6, Hf5.out.later hb6, HV5.out.later hb6, HT6.out, HK6.out⟩
  clear hb6 HK6 HT6 HV5 Hd5 Hs5 Hf5 B5
  go_upto_region 6 with (fail)
  clear e0 e1 e2 e3 e4
  generalize (w5.alloc (.cells #[.int .i64 2, .int .u8 7, .string ⟨#[]⟩, .int .i64 0, .slice none 0 0, .int .i64 2, .int .u8 7, .string ⟨#[]⟩, .int .i64 0, .slice none 0 0] 27)).alloc (.cells #[.int .i64 6, .int .u8 0, .string ⟨#[]⟩, .int .i64 0, .slice (some ⟨w5.heap.size, 0, none⟩) 2 2] 27) = w6 at *
  generalize w5.heap.size + 1 = bt at *
  generalize w5.heap.size = bk at *
  have e0 := HS0.out.d.load
  have e1 := HS0.out.s.load
  have e2 := HS0.out.f.load
  have t0 : (_ : Option Value) = some (.int .i64 6) := HS0.out.t.cell 0
  have t1 : (_ : Option Value) = some (.int .u8 0) := HS0.out.t.cell 1
  have t2 : (_ : Option Value) = some (.string ⟨#[]⟩) := HS0.out.t.cell 2
  have t3 : (_ : Option Value) = some (.int .i64 0) := HS0.out.t.cell 3
  have t4 : (_ : Option Value) = some (.slice (some ⟨bk, 0, none⟩) 2 2) := HS0.out.t.cell 4
  have s0 : (_ : Option Value) = some (.int .i64 2) := HS0.out.v.cell 0
  have s1 : (_ : Option Value) = some (.int .u8 7) := HS0.out.v.cell 1
  have s2 : (_ : Option Value) = some (.string ⟨#[]⟩) := HS0.out.v.cell 2
  have s3 : (_ : Option Value) = some (.int .i64 0) := HS0.out.v.cell 3
  have s4 : (_ : Option Value) = some (.slice none 0 0) := HS0.out.v.cell 4
  have hb7 := (Below.refl w6.heap.size w6).alloc (Nat.le_refl _) (.cells #[.int .i64 6, .int .u8 0, .string ⟨#[]⟩, .int .i64 0, .slice (some ⟨bk, 0, none⟩) 2 2] 27)
  have HS1 := Lib.hid (HS0.out.later hb7)
  have HI : Hid (IsV (w6.alloc (.cells #[.int .i64 6, .int .u8 0, .string ⟨#[]⟩, .int .i64 0, .slice (some ⟨bk, 0, none⟩) 2 2] 27)) (.agg (vlC avX (some ⟨w6.heap.size, 0, none⟩) 1)) avX) := ⟨_, 1, by decide, rfl, vrow1 (v := avT) (B := some ⟨bk, 0, none⟩) (c := 2) (Blk.new w6 _ _) (by decide) HS1.out.k⟩
  have CO : Hid (Calls Try.prog 11 #[.agg #[.slice Af 3 cf], .agg #[.int .i64 8, .int .u8 0, .string ⟨#[]⟩, .int .i64 0, .slice (some ⟨w6.heap.size, 0, none⟩) 1 1]] (w6.alloc (.cells #[.int .i64 6, .int .u8 0, .string ⟨#[]⟩, .int .i64 0, .slice (some ⟨bk, 0, none⟩) 2 2] 27)) (PrV (w6.alloc (.cells #[.int .i64 6, .int .u8 0, .string ⟨#[]⟩, .int .i64 0, .slice (some ⟨bk, 0, none⟩) 2 2] 27)) (some [2, 7, 7]))) := HWR.isD HS1.out.f.isD avF_sp (wrap_tx (wrap_tx avD_tx)) (by decide) HI.out av_F
  go_wp2_with fail
  refine CO.out.mono ?_; rintro e x1 ⟨x, rfl, ⟨sv, rfl, hx⟩, hb⟩
  have hx : IsW [2, 7, 7] sv x1 := hx
  have HX := Lib.hid hx
  obtain ⟨A6, c6, hsv, -⟩ := hx.len
  have hsv : sv = .slice A6 3 c6 := hsv
  subst hsv
  have HS2 := Lib.hid (HS1.out.later hb)
  clear hx hb hb7 CO HI HS1 HS0 e0 e1 e2 t0 t1 t2 t3 t4 s0 s1 s2 s3 s4
  have e0 := HS2.out.d.load
  have e1 := HS2.out.s.load
  have e2 := HS2.out.f.load
  have t0 : (_ : Option Value) = some (.int .i64 6) := HS2.out.t.cell 0
  have t1 : (_ : Option Value) = some (.int .u8 0) := HS2.out.t.cell 1
  have t2 : (_ : Option Value) = some (.string ⟨#[]⟩) := HS2.out.t.cell 2
  have t3 : (_ : Option Value) = some (.int .i64 0) := HS2.out.t.cell 3
  have t4 : (_ : Option Value) = some (.slice (some ⟨bk, 0, none⟩) 2 2) := HS2.out.t.cell 4
  have s0 : (_ : Option Value) = some (.int .i64 2) := HS2.out.v.cell 0
  have s1 : (_ : Option Value) = some (.int .u8 7) := HS2.out.v.cell 1
  have s2 : (_ : Option Value) = some (.string ⟨#[]⟩) := HS2.out.v.cell 2
  have s3 : (_ : Option Value) = some (.int .i64 0) := HS2.out.v.cell 3
  have s4 : (_ : Option Value) = some (.slice none 0 0) := HS2.out.v.cell 4
  have CO : Hid (Calls Try.prog 11 #[.agg #[.slice Ad 1 1], .agg #[.int .i64 2, .int .u8 8, .string ⟨#[]⟩, .int .i64 0, .slice none 0 0]] x1 (PrV x1 (none))) := HWR.isD HS2.out.d.isD avD_sp avD_tx (by decide) (isV_leaf _ 2 8) av_D
  go_wp2_with fail
  refine CO.out.mono ?_; rintro e x2 ⟨x, rfl, ⟨sv, rfl, hx⟩, hb⟩
  have hx : IsW [] sv x2 := hx
  obtain ⟨A2, c2, hsv, -⟩ := hx.len
  have hsv : sv = .slice A2 0 c2 := hsv
  subst hsv
  have HS3 := Lib.hid (HS2.out.later hb)
  have HX := Lib.hid (HX.out.later hb)
  clear hx hb CO HS2 e0 e1 e2 t0 t1 t2 t3 t4 s0 s1 s2 s3 s4
  have e0 := HS3.out.d.load
  have e1 := HS3.out.s.load
  have e2 := HS3.out.f.load
  have t0 : (_ : Option Value) = some (.int .i64 6) := HS3.out.t.cell 0
  have t1 : (_ : Option Value) = some (.int .u8 0) := HS3.out.t.cell 1
  have t2 : (_ : Option Value) = some (.string ⟨#[]⟩) := HS3.out.t.cell 2
  have t3 : (_ : Option Value) = some (.int .i64 0) := HS3.out.t.cell 3
  have t4 : (_ : Option Value) = some (.slice (some ⟨bk, 0, none⟩) 2 2) := HS3.out.t.cell 4
  have s0 : (_ : Option Value) = some (.int .i64 2) := HS3.out.v.cell 0
  have s1 : (_ : Option Value) = some (.int .u8 7) := HS3.out.v.cell 1
  have s2 : (_ : Option Value) = some (.string ⟨#[]⟩) := HS3.out.v.cell 2
  have s3 : (_ : Option Value) = some (.int .i64 0) := HS3.out.v.cell 3
  have s4 : (_ : Option Value) = some (.slice none 0 0) := HS3.out.v.cell 4
  have CO : Hid (Calls Try.prog 11 #[.agg #[.slice As 2 cs], .agg #[.int .i64 2, .int .u8 7, .string ⟨#[]⟩, .int .i64 0, .slice none 0 0]] x2 (PrV x2 (none))) := HWR.isD HS3.out.s.isD avS_sp (wrap_tx avD_tx) (by decide) (isV_leaf _ 2 7) av_S
  go_wp2_with fail
  refine CO.out.mono ?_; rintro e x3 ⟨x, rfl, ⟨sv, rfl, hx⟩, hb⟩
  have hx : IsW [] sv x3 := hx
  obtain ⟨A3, c3, hsv, -⟩ := hx.len
  have hsv : sv = .slice A3 0 c3 := hsv
  subst hsv
  have HS4 := Lib.hid (HS3.out.later hb)
  have HX := Lib.hid (HX.out.later hb)
  clear hx hb CO HS3 e0 e1 e2 t0 t1 t2 t3 t4 s0 s1 s2 s3 s4
  have e0 := HS4.out.d.load
  have e1 := HS4.out.s.load
  have e2 := HS4.out.f.load
  have t0 : (_ : Option Value) = some (.int .i64 6) := HS4.out.t.cell 0
  have t1 : (_ : Option Value) = some (.int .u8 0) := HS4.out.t.cell 1
  have t2 : (_ : Option Value) = some (.string ⟨#[]⟩) := HS4.out.t.cell 2
  have t3 : (_ : Option Value) = some (.int .i64 0) := HS4.out.t.cell 3
  have t4 : (_ : Option Value) = some (.slice (some ⟨bk, 0, none⟩) 2 2) := HS4.out.t.cell 4
  have s0 : (_ : Option Value) = some (.int .i64 2) := HS4.out.v.cell 0
  have s1 : (_ : Option Value) = some (.int .u8 7) := HS4.out.v.cell 1
  have s2 : (_ : Option Value) = some (.string ⟨#[]⟩) := HS4.out.v.cell 2
  have s3 : (_ : Option Value) = some (.int .i64 0) := HS4.out.v.cell 3
  have s4 : (_ : Option Value) = some (.slice none 0 0) := HS4.out.v.cell 4
  have CO : Hid (Calls Try.prog 11 #[.agg #[.slice As 2 cs], .agg #[.int .i64 6, .int .u8 0, .string ⟨#[]⟩, .int .i64 0, .slice none 0 0]] x3 (PrV x3 (some []))) := HWR.isD HS4.out.s.isD avS_sp (wrap_tx avD_tx) (by decide) (isV_leaf _ 6 0) av_E
  go_wp2_with fail
  refine CO.out.mono ?_; rintro e x4 ⟨x, rfl, ⟨sv, rfl, hx⟩, hb⟩
  have hx : IsW [] sv x4 := hx
  obtain ⟨A4, c4, hsv, -⟩ := hx.len
  have hsv : sv = .slice A4 0 c4 := hsv
  subst hsv
  have HS5 := Lib.hid (HS4.out.later hb)
  have HX := Lib.hid (HX.out.later hb)
  clear hx hb CO HS4 e0 e1 e2 t0 t1 t2 t3 t4 s0 s1 s2 s3 s4
  have HZ0 : Hid (AvX w bd Ad bs_ As cs bf Af cf b7 bt bk (.slice A6 3 c6) x4) := ⟨HS5.out, HX.out⟩
  clear HS5 HX
  go_upto_region 10 with (fail)
  refine wp_region_stable (S := (AvX w bd Ad bs_ As cs bf Af cf b7 bt bk (.slice A6 3 c6))) (hSt := fun _ _ h hb => h.later hb) (plan := [[(2, none)], [(56, some 0)], [(5, none)], [(58, some 2)], [(59, some 3)], [(57, some 1), (60, some 4)], [(61, some 5)], [(55, some 6)], [(55, some 6)], [(62, some 7)], [(63, some 8)]]) (by kernel_rfl) (by kernel_rfl) (by kernel_rfl) ?hS ?_
  rotate_left
  iterate 1 first
    | (refine chain_skip (by rfl) (by rfl) ?_)
    | (apply chain_want (by rfl)
       · intro act wx hS hr
         simp at hr
         have e1 := hS.s.s.load
         have t0 : (_ : Option Value) = some (.int .i64 6) := hS.s.t.cell 0
         have t1 : (_ : Option Value) = some (.int .u8 0) := hS.s.t.cell 1
         have t2 : (_ : Option Value) = some (.string ⟨#[]⟩) := hS.s.t.cell 2
         have t3 : (_ : Option Value) = some (.int .i64 0) := hS.s.t.cell 3
         have t4 : (_ : Option Value) = some (.slice (some ⟨bk, 0, none⟩) 2 2) := hS.s.t.cell 4
         go_simp
         (try go_ints)
         first
           | (obtain ⟨x, hr1, sv, rfl, hx⟩ := hr; simp only [hr1, Option.getD_some]; go_simp; exact Done.same)
           | exact Done.same
      )
  (refine chain_rel (IsD avW) (IsD.later _) (by rfl) ?_ ?_
   · intro act wx hS hr
     simp at hr
     have e1 := hS.s.s.load
     have t0 : (_ : Option Value) = some (.int .i64 6) := hS.s.t.cell 0
     have t1 : (_ : Option Value) = some (.int .u8 0) := hS.s.t.cell 1
     have t2 : (_ : Option Value) = some (.string ⟨#[]⟩) := hS.s.t.cell 2
     have t3 : (_ : Option Value) = some (.int .i64 0) := hS.s.t.cell 3
     have t4 : (_ : Option Value) = some (.slice (some ⟨bk, 0, none⟩) 2 2) := hS.s.t.cell 4
     all_goals go_simp
     ((with_reducible refine (hS.s.s.isD.rwrap avS_sp.sm 9 0 0).mono ?_); intro e w' hp; obtain ⟨s, rfl, ho, hb⟩ := hp; exact Done.rel hb ho.isD)
  )
  iterate 1 first
    | (refine chain_skip (by rfl) (by rfl) ?_)
    | (apply chain_want (by rfl)
       · intro act wx hS hr
         simp at hr
         have e1 := hS.s.s.load
         have t0 : (_ : Option Value) = some (.int .i64 6) := hS.s.t.cell 0
         have t1 : (_ : Option Value) = some (.int .u8 0) := hS.s.t.cell 1
         have t2 : (_ : Option Value) = some (.string ⟨#[]⟩) := hS.s.t.cell 2
         have t3 : (_ : Option Value) = some (.int .i64 0) := hS.s.t.cell 3
         have t4 : (_ : Option Value) = some (.slice (some ⟨bk, 0, none⟩) 2 2) := hS.s.t.cell 4
         go_simp
         (try go_ints)
         first
           | (obtain ⟨x, hr1, sv, rfl, hx⟩ := hr; simp only [hr1, Option.getD_some]; go_simp; exact Done.same)
           | exact Done.same
      )
  (refine chain_rel (RowK) (RowK.later) (by rfl) ?_ ?_
   · intro act wx hS hr
     simp at hr
     have e1 := hS.s.s.load
     have t0 : (_ : Option Value) = some (.int .i64 6) := hS.s.t.cell 0
     have t1 : (_ : Option Value) = some (.int .u8 0) := hS.s.t.cell 1
     have t2 : (_ : Option Value) = some (.string ⟨#[]⟩) := hS.s.t.cell 2
     have t3 : (_ : Option Value) = some (.int .i64 0) := hS.s.t.cell 3
     have t4 : (_ : Option Value) = some (.slice (some ⟨bk, 0, none⟩) 2 2) := hS.s.t.cell 4
     all_goals go_simp
     exact Done.rel ((Below.refl _ _).alloc (Nat.le_refl _) _) ⟨_, rfl, vrow1 (v := avT) (B := some ⟨bk, 0, none⟩) (c := 2) (Blk.new wx _ _) (by decide) (hS.s.k.later ((Below.refl _ _).alloc (Nat.le_refl _) _))⟩
  )
  (refine chain_rel (IsVp avY) (IsVp.later avY) (by rfl) ?_ ?_
   · intro act wx hS hr
     simp at hr
     have e1 := hS.s.s.load
     have t0 : (_ : Option Value) = some (.int .i64 6) := hS.s.t.cell 0
     have t1 : (_ : Option Value) = some (.int .u8 0) := hS.s.t.cell 1
     have t2 : (_ : Option Value) = some (.string ⟨#[]⟩) := hS.s.t.cell 2
     have t3 : (_ : Option Value) = some (.int .i64 0) := hS.s.t.cell 3
     have t4 : (_ : Option Value) = some (.slice (some ⟨bk, 0, none⟩) 2 2) := hS.s.t.cell 4
     obtain ⟨x, hr1, g, rfl, hg⟩ := hr
     all_goals go_simp
     exact Done.rel (Below.refl _ _) ⟨_, 1, by decide, rfl, hg⟩
  )
  (refine chain_rel (TupV (some [0, 2, 7, 7])) (TupV.later _) (by rfl) ?_ ?_
   · intro act wx hS hr
     simp at hr
     have e1 := hS.s.s.load
     have t0 : (_ : Option Value) = some (.int .i64 6) := hS.s.t.cell 0
     have t1 : (_ : Option Value) = some (.int .u8 0) := hS.s.t.cell 1
     have t2 : (_ : Option Value) = some (.string ⟨#[]⟩) := hS.s.t.cell 2
     have t3 : (_ : Option Value) = some (.int .i64 0) := hS.s.t.cell 3
     have t4 : (_ : Option Value) = some (.slice (some ⟨bk, 0, none⟩) 2 2) := hS.s.t.cell 4
     obtain ⟨⟨x, hr1, hx⟩, y, hr2, hy⟩ := hr
     all_goals go_simp
     (refine (HWR.isD hx avW_sp (wrap_tx (wrap_tx avD_tx)) (by decide) hy av_W).mono ?_; rintro e w' ⟨x, rfl, hx, hb⟩; exact Done.rel hb hx)
  )
  (refine chain_rel (TupV (some [0, 2, 7, 7])) (TupV.later _) (by rfl) ?_ ?_
   · intro act wx hS hr
     simp at hr
     have e1 := hS.s.s.load
     have t0 : (_ : Option Value) = some (.int .i64 6) := hS.s.t.cell 0
     have t1 : (_ : Option Value) = some (.int .u8 0) := hS.s.t.cell 1
     have t2 : (_ : Option Value) = some (.string ⟨#[]⟩) := hS.s.t.cell 2
     have t3 : (_ : Option Value) = some (.int .i64 0) := hS.s.t.cell 3
     have t4 : (_ : Option Value) = some (.slice (some ⟨bk, 0, none⟩) 2 2) := hS.s.t.cell 4
     obtain ⟨x, hr1, hx⟩ := hr
     all_goals go_simp
     exact Done.rel (Below.refl _ _) hx
  )
  (refine chain_rel (IsWp [0, 2, 7, 7]) (IsWp.later _) (by rfl) ?_ ?_
   · intro act wx hS hr
     simp at hr
     have e1 := hS.s.s.load
     have t0 : (_ : Option Value) = some (.int .i64 6) := hS.s.t.cell 0
     have t1 : (_ : Option Value) = some (.int .u8 0) := hS.s.t.cell 1
     have t2 : (_ : Option Value) = some (.string ⟨#[]⟩) := hS.s.t.cell 2
     have t3 : (_ : Option Value) = some (.int .i64 0) := hS.s.t.cell 3
     have t4 : (_ : Option Value) = some (.slice (some ⟨bk, 0, none⟩) 2 2) := hS.s.t.cell 4
     obtain ⟨x, hr1, sv, rfl, hx⟩ := hr
     all_goals go_simp
     exact Done.rel (Below.refl _ _) hx
  )
  iterate 1 first
    | (refine chain_skip (by rfl) (by rfl) ?_)
    | (apply chain_want (by rfl)
       · intro act wx hS hr
         simp at hr
         have e1 := hS.s.s.load
         have t0 : (_ : Option Value) = some (.int .i64 6) := hS.s.t.cell 0
         have t1 : (_ : Option Value) = some (.int .u8 0) := hS.s.t.cell 1
         have t2 : (_ : Option Value) = some (.string ⟨#[]⟩) := hS.s.t.cell 2
         have t3 : (_ : Option Value) = some (.int .i64 0) := hS.s.t.cell 3
         have t4 : (_ : Option Value) = some (.slice (some ⟨bk, 0, none⟩) 2 2) := hS.s.t.cell 4
         go_simp
         (try go_ints)
         first
           | (obtain ⟨x, hr1, sv, rfl, hx⟩ := hr; simp only [hr1, Option.getD_some]; go_simp; exact Done.same)
           | exact Done.same
      )
  (refine chain_rel (IsWp [0, 2, 7, 7]) (IsWp.later _) (by rfl) ?_ ?_
   · intro act wx hS hr
     simp at hr
     have e1 := hS.s.s.load
     have t0 : (_ : Option Value) = some (.int .i64 6) := hS.s.t.cell 0
     have t1 : (_ : Option Value) = some (.int .u8 0) := hS.s.t.cell 1
     have t2 : (_ : Option Value) = some (.string ⟨#[]⟩) := hS.s.t.cell 2
     have t3 : (_ : Option Value) = some (.int .i64 0) := hS.s.t.cell 3
     have t4 : (_ : Option Value) = some (.slice (some ⟨bk, 0, none⟩) 2 2) := hS.s.t.cell 4
     obtain ⟨x, hr1, hx⟩ := hr
     all_goals go_simp
     exact Done.rel (Below.refl _ _) hx
  )
  iterate 1 first
    | (refine chain_skip (by rfl) (by rfl) ?_)
    | (apply chain_want (by rfl)
       · intro act wx hS hr
         simp at hr
         have e1 := hS.s.s.load
         have t0 : (_ : Option Value) = some (.int .i64 6) := hS.s.t.cell 0
         have t1 : (_ : Option Value) = some (.int .u8 0) := hS.s.t.cell 1
         have t2 : (_ : Option Value) = some (.string ⟨#[]⟩) := hS.s.t.cell 2
         have t3 : (_ : Option Value) = some (.int .i64 0) := hS.s.t.cell 3
         have t4 : (_ : Option Value) = some (.slice (some ⟨bk, 0, none⟩) 2 2) := hS.s.t.cell 4
         go_simp
         (try go_ints)
         first
           | (obtain ⟨x, hr1, sv, rfl, hx⟩ := hr; simp only [hr1, Option.getD_some]; go_simp; exact Done.same)
           | exact Done.same
      )
  show ∀ w', _ → _
  intro w9 hz9
  simp [Act.put]
  case hS => exact HZ0.out
  intro q1 _ q3 _ q4 _ q5 _ q6 _ q7 _ q9 hq9
  have hq9 : IsW [0, 2, 7, 7] q9 w9 := hq9
  obtain ⟨A9, c9, hsv, -⟩ := hq9.len
  have hsv : q9 = .slice A9 4 c9 := hsv
  subst hsv
  have HS6 := Lib.hid hz9.s
  have HX6 := Lib.hid hz9.x
  have HY6 := Lib.hid hq9
  clear hz9 hq9 HZ0
  have hb10 := (Below.refl w9.heap.size w9).alloc (Nat.le_refl _) (.cells #[.int .u8 2, .int .u8 7, .int .u8 7] 5)
  have HO10 : Hid (IsW [2, 7, 7] (.slice (some ⟨w9.heap.size, 0, none⟩) 3 3) (w9.alloc (.cells #[.int .u8 2, .int .u8 7, .int .u8 7] 5))) := own_isW (own_new (w := w9) (W := [2, 7, 7]) (cs := #[.int .u8 2, .int .u8 7, .int .u8 7]) rfl (by decide)) (by decide)
  have CB : Hid (Calls Try.prog 13 #[.slice A6 3 c6, .slice (some ⟨w9.heap.size, 0, none⟩) 3 3] (w9.alloc (.cells #[.int .u8 2, .int .u8 7, .int .u8 7] 5)) (Ans (w9.alloc (.cells #[.int .u8 2, .int .u8 7, .int .u8 7] 5)) (.bool true))) := bytes_rowV (nats [2, 7, 7]) (nats [2, 7, 7]) _ _ _ (HX6.out.later hb10).bytes HO10.out.bytes (by decide) (by decide)
  have HS7 := Lib.hid (HS6.out.later hb10)
  have HY7 := Lib.hid (HY6.out.later hb10)
  clear hb10 HO10 HX6 HY6 HS6
  go_wp2_with fail
  refine CB.out.mono ?_; rintro e w10 ⟨rfl, hb⟩
  have HS8 := Lib.hid (HS7.out.later hb)
  have HY8 := Lib.hid (HY7.out.later hb)
  clear hb CB HS7 HY7
  have hb11 := (Below.refl w10.heap.size w10).alloc (Nat.le_refl _) (.cells #[.int .u8 0, .int .u8 2, .int .u8 7, .int .u8 7] 5)
  have HO11 : Hid (IsW [0, 2, 7, 7] (.slice (some ⟨w10.heap.size, 0, none⟩) 4 4) (w10.alloc (.cells #[.int .u8 0, .int .u8 2, .int .u8 7, .int .u8 7] 5))) := own_isW (own_new (w := w10) (W := [0, 2, 7, 7]) (cs := #[.int .u8 0, .int .u8 2, .int .u8 7, .int .u8 7]) rfl (by decide)) (by decide)
  have CB : Hid (Calls Try.prog 13 #[.slice A9 4 c9, .slice (some ⟨w10.heap.size, 0, none⟩) 4 4] (w10.alloc (.cells #[.int .u8 0, .int .u8 2, .int .u8 7, .int .u8 7] 5)) (Ans (w10.alloc (.cells #[.int .u8 0, .int .u8 2, .int .u8 7, .int .u8 7] 5)) (.bool true))) := bytes_rowV (nats [0, 2, 7, 7]) (nats [0, 2, 7, 7]) _ _ _ (HY8.out.later hb11).bytes HO11.out.bytes (by decide) (by decide)
  have HS9 := Lib.hid (HS8.out.later hb11)
  clear hb11 HO11 HY8 HS8
  go_wp2_with fail
  refine CB.out.mono ?_; rintro e w11 ⟨rfl, hb⟩
  have HS10 := Lib.hid (HS9.out.later hb)
  clear hb CB HS9
  have e0 := HS10.out.d.load
  have e1 := HS10.out.s.load
  have e2 := HS10.out.f.load
  have t0 : (_ : Option Value) = some (.int .i64 6) := HS10.out.t.cell 0
  have t1 : (_ : Option Value) = some (.int .u8 0) := HS10.out.t.cell 1
  have t2 : (_ : Option Value) = some (.string ⟨#[]⟩) := HS10.out.t.cell 2
  have t3 : (_ : Option Value) = some (.int .i64 0) := HS10.out.t.cell 3
  have t4 : (_ : Option Value) = some (.slice (some ⟨bk, 0, none⟩) 2 2) := HS10.out.t.cell 4
  have s0 : (_ : Option Value) = some (.int .i64 2) := HS10.out.v.cell 0
  have s1 : (_ : Option Value) = some (.int .u8 7) := HS10.out.v.cell 1
  have s2 : (_ : Option Value) = some (.string ⟨#[]⟩) := HS10.out.v.cell 2
  have s3 : (_ : Option Value) = some (.int .i64 0) := HS10.out.v.cell 3
  have s4 : (_ : Option Value) = some (.slice none 0 0) := HS10.out.v.cell 4
  have CO : Hid (Calls Try.prog 14 #[.agg #[.int .i64 6, .int .u8 0, .string ⟨#[]⟩, .int .i64 0, .slice (some ⟨bk, 0, none⟩) 2 2], .agg #[.int .i64 6, .int .u8 0, .string ⟨#[]⟩, .int .i64 0, .slice (some ⟨bk, 0, none⟩) 2 2]] w11 (Ans w11 (.bool true))) := by
    have := HSM avT avT _ _ w11 (by decide) (by decide) HS10.out.isT HS10.out.isT
    rw [av_same] at this; exact this
  go_wp2_with fail
  refine CO.out.mono ?_; rintro e w12 ⟨rfl, hb⟩
  have HS11 := Lib.hid (HS10.out.later hb)
  clear hb CO HS10 e0 e1 e2 t0 t1 t2 t3 t4 s0 s1 s2 s3 s4
  have e0 := HS11.out.d.load
  have e1 := HS11.out.s.load
  have e2 := HS11.out.f.load
  have t0 : (_ : Option Value) = some (.int .i64 6) := HS11.out.t.cell 0
  have t1 : (_ : Option Value) = some (.int .u8 0) := HS11.out.t.cell 1
  have t2 : (_ : Option Value) = some (.string ⟨#[]⟩) := HS11.out.t.cell 2
  have t3 : (_ : Option Value) = some (.int .i64 0) := HS11.out.t.cell 3
  have t4 : (_ : Option Value) = some (.slice (some ⟨bk, 0, none⟩) 2 2) := HS11.out.t.cell 4
  have s0 : (_ : Option Value) = some (.int .i64 2) := HS11.out.v.cell 0
  have s1 : (_ : Option Value) = some (.int .u8 7) := HS11.out.v.cell 1
  have s2 : (_ : Option Value) = some (.string ⟨#[]⟩) := HS11.out.v.cell 2
  have s3 : (_ : Option Value) = some (.int .i64 0) := HS11.out.v.cell 3
  have s4 : (_ : Option Value) = some (.slice none 0 0) := HS11.out.v.cell 4
  have CO : Hid (Calls Try.prog 14 #[.agg #[.int .i64 6, .int .u8 0, .string ⟨#[]⟩, .int .i64 0, .slice (some ⟨bk, 0, none⟩) 2 2], .agg #[.int .i64 2, .int .u8 7, .string ⟨#[]⟩, .int .i64 0, .slice none 0 0]] w12 (Ans w12 (.bool false))) := by
    have := HSM avT av7 _ _ w12 (by decide) (by decide) HS11.out.isT (isV_leaf _ 2 7)
    rw [av_other] at this; exact this
  go_wp2_with fail
  refine CO.out.mono ?_; rintro e w13 ⟨rfl, hb⟩
  have HS12 := Lib.hid (HS11.out.later hb)
  clear hb CO HS11 e0 e1 e2 t0 t1 t2 t3 t4 s0 s1 s2 s3 s4
  have e0 := HS12.out.d.load
  have e1 := HS12.out.s.load
  have e2 := HS12.out.f.load
  have t0 : (_ : Option Value) = some (.int .i64 6) := HS12.out.t.cell 0
  have t1 : (_ : Option Value) = some (.int .u8 0) := HS12.out.t.cell 1
  have t2 : (_ : Option Value) = some (.string ⟨#[]⟩) := HS12.out.t.cell 2
  have t3 : (_ : Option Value) = some (.int .i64 0) := HS12.out.t.cell 3
  have t4 : (_ : Option Value) = some (.slice (some ⟨bk, 0, none⟩) 2 2) := HS12.out.t.cell 4
  have s0 : (_ : Option Value) = some (.int .i64 2) := HS12.out.v.cell 0
  have s1 : (_ : Option Value) = some (.int .u8 7) := HS12.out.v.cell 1
  have s2 : (_ : Option Value) = some (.string ⟨#[]⟩) := HS12.out.v.cell 2
  have s3 : (_ : Option Value) = some (.int .i64 0) := HS12.out.v.cell 3
  have s4 : (_ : Option Value) = some (.slice none 0 0) := HS12.out.v.cell 4
  have CO : Hid (Calls Try.prog 16 #[.agg #[.int .i64 6, .int .u8 0, .string ⟨#[]⟩, .int .i64 0, .slice (some ⟨bk, 0, none⟩) 2 2]] w13 (Ans w13 (.int .i64 3))) := HMN avT _ w13 (by decide) HS12.out.isT
  go_wp2_with fail
  refine CO.out.mono ?_; rintro e w14 ⟨rfl, hb⟩
  have HS13 := Lib.hid (HS12.out.later hb)
  clear hb CO HS12 e0 e1 e2 t0 t1 t2 t3 t4 s0 s1 s2 s3 s4
  go_wp2
  go_ret
  exact ⟨rfl, HS13.out.bel⟩
end Go.Proofs.Ytgdlbahfmddkaaa
