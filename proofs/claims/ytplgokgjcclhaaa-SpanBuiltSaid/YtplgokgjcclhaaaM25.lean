/- Spans: what the laws call, of descriptions wherever they stand. -/
import Derived.Test.YtplgokgjcclhaaaM23
import Derived.Test.YtplgokgjcclhaaaM24
import Derived.Test.YtplgokgjcclhaaaM18
namespace Go.Proofs.Ytplgokgjcclhaaa
open Go Go.RowKit
set_option linter.unusedVariables false
set_option linter.unusedSimpArgs false

/-- Texts that are short enough for spans. -/
def TxSp (l : List Nd) : Prop := ∀ n ∈ l, n.text.length ≤ 1099511627776
theorem TxSp.snoc {l : List Nd} (h : TxSp l) {n : Nd} (hn : n.text = []) : TxSp (l ++ [n]) := fun m hm => by
  rcases List.mem_append.1 hm with h1 | h1
  · exact h m h1
  · rw [List.mem_singleton.1 h1, hn]; simp
theorem TxSp.mv {l : List Nd} (h : TxSp l) (d : Int) : TxSp (l.map (mvN d)) := fun m hm => by
  obtain ⟨n, hn, rfl⟩ := List.mem_map.1 hm
  have e : (mvN d n).text = n.text := by unfold mvN; (repeat' split) <;> rfl
  rw [e]; exact h n hn
/-- A description that has its form, isn't long, and has short texts. -/
structure Sp (l : List Nd) : Prop where
  sm : Sm l
  tx : TxSp l
theorem few_sp {l : List Nd} (h : fewB l = true) (hF : Form l) : Sp l :=
  ⟨⟨hF, by have := (few_txt h).1; omega, fun n hn => by have := (few_txt h).2 n hn; omega⟩, fun n hn => by have := (few_txt h).2 n hn; omega⟩
theorem Sp.wrap {l : List Nd} (h : Sp l) (hl : l.length ≤ 999) {kind : Int} (hk : kind = 6 ∨ kind = 8 ∨ kind = 9) : Sp (wrapL kind 0 0 l) := ⟨h.sm.wrap hl hk, by unfold wrapL; exact h.tx.snoc rfl⟩
theorem Sp.rep {l : List Nd} (h : Sp l) (hl : l.length ≤ 999) {lo hi : Int} (h1 : 0 ≤ lo) (h2 : lo ≤ hi) (h3 : hi ≤ 255) : Sp (wrapL 7 lo hi l) := ⟨h.sm.rep hl h1 h2 h3, by unfold wrapL; exact h.tx.snoc rfl⟩
theorem Sp.pair {l m : List Nd} (h : Sp l) (k : Sp m) (hl : l.length + m.length ≤ 999) {kind : Int} (hk : kind = 4 ∨ kind = 5) : Sp (pairL kind l m) := ⟨h.sm.pair k.sm hl hk, by
  unfold pairL
  refine TxSp.snoc (fun n hn => ?_) rfl
  rcases List.mem_append.1 hn with h1 | h1
  · exact h.tx n h1
  · exact k.tx.mv _ n h1⟩
theorem Sp.sub {l : List Nd} (h : Sp l) {i : Nat} (hi : i < l.length) : Sp (subL l i) := ⟨h.sm.sub hi, by
  unfold subL
  refine TxSp.mv (fun n hn => ?_) _
  unfold seg at hn
  exact h.tx n (List.mem_of_mem_drop (List.mem_of_mem_take hn))⟩
theorem sp_one {n : Nd} (h : okN [n] 0 n) (hk : leafK n.kind) (ht : n.text.length ≤ 1099511627776) : Sp [n] := by
  refine ⟨⟨⟨by simp, fun i hi => ?_, ?_⟩, by simp, fun m hm => ?_⟩, fun m hm => ?_⟩
  · obtain rfl : i = 0 := by simpa using hi
    exact h
  · show firstP [n] 0 = 0
    have := firstP_le [n] 0; omega
  · rw [List.mem_singleton.1 hm]; omega
  · rw [List.mem_singleton.1 hm]; exact ht
theorem okN.spNd {l : List Nd} {i : Nat} {n : Nd} (h : okN l i n) (ht : n.text.length ≤ 1099511627776) : SpNd n := by
  obtain ⟨hb, hk⟩ := h
  exact ⟨by omega, fun h7 => by omega, ht⟩
theorem Sp.nd {l : List Nd} (h : Sp l) : ∀ n ∈ l, SpNd n := fun n hn => by
  obtain ⟨i, hi, rfl⟩ := h.sm.form.at_ hn
  exact (h.sm.form.2.1 i hi).spNd (h.tx _ hn)
theorem IsD.spof {l : List Nd} {v : Value} {w : World} (h : IsD l v w) (hs : Sp l) {p : Spn} (hp : spD l = p) : Calls Try.prog 12 #[v] w (Ans w (.tuple #[.int .i64 p.1, .int .i64 p.2])) := by
  obtain ⟨A, c, hc, rfl, hr⟩ := h
  have := spof_any l A c hs.sm.form.1 hc (by have := hs.sm.len; omega) hs.nd w hr
  rw [hp] at this; exact this
theorem IsD.spnode {l : List Nd} {v : Value} {w : World} (h : IsD l v w) (hs : Sp l) {i : Nat} (hi : i < l.length) {p : Spn} (hp : spN l i = p) : Calls Try.prog 10 #[v, .int .i64 (i : Int)] w (Ans w (.tuple #[.int .i64 p.1, .int .i64 p.2])) := by
  obtain ⟨A, c, hc, rfl, hr⟩ := h
  have := spnode_any l A c i hi hc (by have := hs.sm.len; omega) hs.nd w hr
  rw [hp] at this; exact this
theorem IsD.rspnode {l : List Nd} {v : Value} {w : World} (h : IsD l v w) (hs : Sp l) {i : Nat} (hi : i < l.length) {p : Spn} (hp : spN l i = p) : Calls Try.prog 11 #[v, .int .i64 (i : Int)] w (Ans w (.tuple #[.int .i64 p.1, .int .i64 p.2])) := by
  obtain ⟨A, c, hc, rfl, hr⟩ := h
  have := rspnode_any l A c hs.sm.form hc (by have := hs.sm.len; omega) hs.nd i hi w hr
  rw [hp] at this; exact this
end Go.Proofs.Ytplgokgjcclhaaa
/- The anchor of layer 7. -/
namespace Go.Proofs.Ytplgokgjcclhaaa
open Go Go.RowKit
set_option linter.unusedVariables false
set_option linter.unusedSimpArgs false

/-- A description in a box. -/
structure Dx (b : Nat) (A : Option Addr) (l : List Nd) (n c : Nat) (w : World) : Prop where
  cap : l.length ≤ c
  len : l.length = n
  box : Blk w b #[.slice A n c] 24
  row : NRow w A l
theorem Dx.later {b : Nat} {A : Option Addr} {l : List Nd} {n c : Nat} {w w' : World} (h : Dx b A l n c w) (hb : Below w.heap.size w w') : Dx b A l n c w' := ⟨h.cap, h.len, h.box.later hb, h.row.later hb⟩
theorem Dx.isD {b : Nat} {A : Option Addr} {l : List Nd} {n c : Nat} {w : World} (h : Dx b A l n c w) : IsD l (.agg #[.slice A n c]) w := ⟨A, c, h.cap, by rw [h.len], h.row⟩
theorem Dx.load {b : Nat} {A : Option Addr} {l : List Nd} {n c : Nat} {w : World} (h : Dx b A l n c w) : w.cell? ⟨b, 0, none⟩ = some (.slice A n c) := by
  have := h.box.cell 0; simpa using this
theorem nrow_one {n : Nd} {b : Nat} {w : World} (h : Blk w b (ndC n) 43) : NRow w (some ⟨b, 0, none⟩) [n] := fun i hi => by
  obtain rfl : i = 0 := by simpa using hi
  exact ⟨b, 0, rfl, h.lt, fun j _ => by rw [h.cell]; simp⟩
theorem dx_one (n : Nd) (w : World) {cs : Array Value} (hc : ndC n = cs) : Dx (w.heap.size + 1) (some ⟨w.heap.size, 0, none⟩) [n] 1 1 ((w.alloc (.cells cs 43)).alloc (.cells #[.slice (some ⟨w.heap.size, 0, none⟩) 1 1] 24)) ∧ Below w.heap.size w ((w.alloc (.cells cs 43)).alloc (.cells #[.slice (some ⟨w.heap.size, 0, none⟩) 1 1] 24)) := by
  subst hc
  exact ⟨⟨by simp, rfl, Blk.new' (by simp) _ _, nrow_one ((Blk.new w _ _).alloc _)⟩, ((Below.refl w.heap.size w).alloc (Nat.le_refl _) _).alloc (by simp) _⟩
theorem dx_of {l : List Nd} {w : World} {A : Option Addr} {n c : Nat} (hr : NRow w A l) (hl : l.length = n) (hc : n ≤ c) : Dx w.heap.size A l n c (w.alloc (.cells #[.slice A n c] 24)) :=
  ⟨by omega, hl, Blk.new w _ _, hr.later ((Below.refl w.heap.size w).alloc (Nat.le_refl _) _)⟩
end Go.Proofs.Ytplgokgjcclhaaa
/- The anchor of layer 10. -/
namespace Go.Proofs.Ytplgokgjcclhaaa
open Go Go.RowKit
set_option linter.unusedVariables false
set_option linter.unusedSimpArgs false
set_option maxRecDepth 100000

def asDn : Nd := ⟨2, 0, 0, 0, 0, rowB 0 255, []⟩
def asNn : Nd := ⟨2, 0, 0, 0, 0, 0#256, []⟩
def asD : List Nd := [asDn]
def asN : List Nd := [asNn]
def asS : List Nd := wrapL 6 0 0 asD
def asF : List Nd := wrapL 8 0 0 asS
def asR : List Nd := wrapL 7 2 3 asF
def asO : List Nd := pairL 5 asN asD
def asT : List Nd := wrapL 6 0 0 asN
theorem asD_sp : Sp asD := sp_one ⟨rfl, .inr (.inl rfl)⟩ (.inr (.inl rfl)) (by decide)
theorem asN_sp : Sp asN := sp_one ⟨rfl, .inr (.inl rfl)⟩ (.inr (.inl rfl)) (by decide)
theorem asS_sp : Sp asS := asD_sp.wrap (by decide) (.inl rfl)
theorem asF_sp : Sp asF := asS_sp.wrap (by decide) (.inr (.inl rfl))
theorem asR_sp : Sp asR := asF_sp.rep (by decide) (by decide) (by decide) (by decide)
theorem asO_sp : Sp asO := asN_sp.pair asD_sp (by decide) (.inr rfl)
theorem asT_sp : Sp asT := asN_sp.wrap (by decide) (.inl rfl)
theorem row_ne : rowB 0 255 ≠ 0#256 := by
  have h := rowB_bit 0 255 0 (by decide)
  intro e
  rw [e] at h
  simp at h
theorem spD_D : spD asD = (1, 1) := by
  unfold spD
  rw [spN_leaf (by exact .inr (.inl rfl))]
  show leafPs asDn = _
  unfold leafPs asDn
  simp [row_ne]
theorem spD_N : spD asN = (-1, -1) := by decide
theorem spD_S : spD asS = (0, -1) := by
  unfold asS; rw [span_wrap (by decide) (by decide), spD_D]; decide
theorem spD_F : spD asF = (1, 256) := by
  unfold asF; rw [span_wrap (by decide) (by decide), spD_S]; decide
theorem spD_R : spD asR = (2, 768) := by
  unfold asR; rw [span_wrap (by decide) (by decide), spD_F]; decide
theorem spD_O : spD asO = (1, 1) := by
  unfold asO; rw [span_pair (by decide) asD_sp.sm.form (.inr rfl), spD_D, spD_N]; decide
theorem spD_T : spD asT = (0, 0) := by
  unfold asT; rw [span_wrap (by decide) (by decide), spD_N]; decide
theorem spN_F : spN asF 1 = (0, -1) := by
  rw [← spD_S]
  unfold spD
  exact spN_congr (l := asF) (m := asS) (i := 1) (fun j hj => by unfold asF wrapL; exact atN_left (by show j < 2; omega))
/-- The boxes. -/
structure AsS (w0 : World) (bd : Nat) (Ad : Option Addr) (bn : Nat) (An : Option Addr) (bs_ : Nat) (As : Option Addr) (cs : Nat) (bf : Nat) (Af : Option Addr) (cf : Nat) (w : World) : Prop where
  bel : Below w0.heap.size w0 w
  d : Dx bd Ad asD 1 1 w
  n : Dx bn An asN 1 1 w
  s : Dx bs_ As asS 2 cs w
  f : Dx bf Af asF 3 cf w
theorem AsS.later {w0 w w' : World} {bd : Nat} {Ad : Option Addr} {bn : Nat} {An : Option Addr} {bs_ : Nat} {As : Option Addr} {cs : Nat} {bf : Nat} {Af : Option Addr} {cf : Nat} (h : AsS w0 bd Ad bn An bs_ As cs bf Af cf w) (hb : Below w.heap.size w w') : AsS w0 bd Ad bn An bs_ As cs bf Af cf w' :=
  ⟨h.bel.trans (hb.mono h.bel.size), h.d.later hb, h.n.later hb, h.s.later hb, h.f.later hb⟩
set_option maxHeartbeats 16000000 in
set_option maxRecDepth 1000000 in
theorem awake10_any (w : World) : Calls Try.prog 7 #[] w (Ans w (.bool true)) := by
  have CR : Hid (Calls Try.prog 17 #[.int .u8 0, .int .u8 255] w (Ans w (cls (rowB 0 255)))) := refrow_any 0 255 (by omega) (by omega) w
  unfold cls at CR
  have hnd : ndC asDn = #[.int .i64 2, .int .i64 0, .int .i64 0, .int .i64 0, .int .i64 0, .int .u64 (wd (rowB 0 255) 0), .int .u64 (wd (rowB 0 255) 1), .int .u64 (wd (rowB 0 255) 2), .int .u64 (wd (rowB 0 255) 3), .string ⟨#[]⟩] := rfl
  generalize wd (rowB 0 255) 0 = k0 at *
  generalize wd (rowB 0 255) 1 = k1 at *
  generalize wd (rowB 0 255) 2 = k2 at *
  generalize wd (rowB 0 255) 3 = k3 at *
  go_enter Try.func7, Try.ntmps7
  go_wp2_with fail
  refine CR.out.mono ?_; rintro e w0 ⟨rfl, hb0⟩
  have HB0 := Lib.hid hb0
  clear hb0 CR
  go_upto_region 2 with (fail)
  obtain ⟨ht, hb1⟩ := dx_one asDn w0 hnd
  have HD : Hid (Dx (w0.heap.size + 1) (some ⟨w0.heap.size, 0, none⟩) asD 1 1 _) := ht
  have HB1 := Lib.hid (HB0.out.trans (hb1.mono HB0.out.size))
  clear ht hb1 hnd HB0
  generalize (w0.alloc (.cells #[.int .i64 2, .int .i64 0, .int .i64 0, .int .i64 0, .int .i64 0, .int .u64 k0, .int .u64 k1, .int .u64 k2, .int .u64 k3, .string ⟨#[]⟩] 43)).alloc (.cells #[.slice (some ⟨w0.heap.size, 0, none⟩) 1 1] 24) = w1 at *
  generalize w0.heap.size + 1 = bd at *
  generalize (some ⟨w0.heap.size, 0, none⟩ : Option Addr) = Ad at *
  go_upto_region 3 with (fail)
  obtain ⟨ht, hb1⟩ := dx_one asNn w1 (cs := #[.int .i64 2, .int .i64 0, .int .i64 0, .int .i64 0, .int .i64 0, .int .u64 0, .int .u64 0, .int .u64 0, .int .u64 0, .string ⟨#[]⟩]) (by unfold asNn; rw [ndC_zero]; rfl)
  have HBB : Hid (Dx (w1.heap.size + 1) (some ⟨w1.heap.size, 0, none⟩) asN 1 1 _) := ht
  have HE2 := Lib.hid (HD.out.later hb1)
  have HB2 := Lib.hid (HB1.out.trans (hb1.mono HB1.out.size))
  clear ht hb1 HD HB1
  generalize (w1.alloc (.cells #[.int .i64 2, .int .i64 0, .int .i64 0, .int .i64 0, .int .i64 0, .int .u64 0, .int .u64 0, .int .u64 0, .int .u64 0, .string ⟨#[]⟩] 43)).alloc (.cells #[.slice (some ⟨w1.heap.size, 0, none⟩) 1 1] 24) = w2 at *
  generalize w1.heap.size + 1 = bn at *
  generalize (some ⟨w1.heap.size, 0, none⟩ : Option Addr) = An at *
  have e0 := HE2.out.load
  have e1 := HBB.out.load
  have CALL := Lib.hid (HE2.out.isD.rwrap asD_sp.sm 6 0 0)
  go_wp2_with fail
  refine CALL.out.mono ?_; intro e v hp; obtain ⟨s, rfl, ho, hb⟩ := hp
  obtain ⟨As, cs, hc, hv, hr⟩ := ho.isD
  have el : (wrapL 6 0 0 asD).length = 2 := rfl
  rw [el] at hc hv
  obtain rfl : s = .slice As 2 cs := by simpa using hv
  have hbb := hb.trans ((Below.refl _ _).alloc hb.size (.cells #[.slice As 2 cs] 24))
  have HN3 : Hid (Dx v.heap.size As asS 2 cs _) := dx_of hr el hc
  have Hd3 := Lib.hid (HE2.out.later hbb)
  have Hn3 := Lib.hid (HBB.out.later hbb)
  have B3 := Lib.hid (HB2.out.trans (hbb.mono HB2.out.size))
  clear HE2 HBB HB2 CALL hb ho hr hv hc e0 e1 el hbb
  go_upto_region 4 with (fail)
  generalize v.alloc (.cells #[.slice As 2 cs] 24) = w3 at *
  generalize v.heap.size = bs_ at *
  have e0 := Hd3.out.load
  have e1 := Hn3.out.load
  have e2 := HN3.out.load
  have CALL := Lib.hid (HN3.out.isD.rwrap asS_sp.sm 8 0 0)
  go_wp2_with fail
  refine CALL.out.mono ?_; intro e v hp; obtain ⟨s, rfl, ho, hb⟩ := hp
  obtain ⟨Af, cf, hc, hv, hr⟩ := ho.isD
  have el : (wrapL 8 0 0 asS).length = 3 := rfl
  rw [el] at hc hv
  obtain rfl : s = .slice Af 3 cf := by simpa using hv
  have hbb := hb.trans ((Below.refl _ _).alloc hb.size (.cells #[.slice Af 3 cf] 24))
  have HN4 : Hid (Dx v.heap.size Af asF 3 cf _) := dx_of hr el hc
  have Hd4 := Lib.hid (Hd3.out.later hbb)
  have Hn4 := Lib.hid (Hn3.out.later hbb)
  have Hs4 := Lib.hid (HN3.out.later hbb)
  have B4 := Lib.hid (B3.out.trans (hbb.mono B3.out.size))
  clear Hd3 Hn3 HN3 B3 CALL hb ho hr hv hc e0 e1 e2 el hbb
  go_upto_region 5 with (fail)
  generalize v.alloc (.cells #[.slice Af 3 cf] 24) = w4 at *
  generalize v.heap.size = bf at *
  have HS0 : Hid (AsS w bd Ad bn An bs_ As cs bf Af cf _) := ⟨B4.out, Hd4.out, Hn4.out, Hs4.out, HN4.out⟩
  clear B4 Hd4 Hn4 Hs4 HN4
  have e0 := HS0.out.d.load
  have e1 := HS0.out.n.load
  have e2 := HS0.out.s.load
  have e3 := HS0.out.f.load
  have CO := Lib.hid (HS0.out.f.isD.spof asF_sp spD_F)
  go_wp2_with fail
  refine (CO.out).mono ?_; rintro e x0 ⟨rfl, hb⟩
  have HS1 := Lib.hid (HS0.out.later hb)
  clear hb CO e0 e1 e2 e3 HS0
  have e0 := HS1.out.d.load
  have e1 := HS1.out.n.load
  have e2 := HS1.out.s.load
  have e3 := HS1.out.f.load
  have CO := Lib.hid (HS1.out.n.isD.spof asN_sp spD_N)
  go_wp2_with fail
  refine (CO.out).mono ?_; rintro e x1 ⟨rfl, hb⟩
  have HS2 := Lib.hid (HS1.out.later hb)
  clear hb CO e0 e1 e2 e3 HS1
  have e0 := HS2.out.d.load
  have e1 := HS2.out.n.load
  have e2 := HS2.out.s.load
  have e3 := HS2.out.f.load
  have CO := Lib.hid (HS2.out.f.isD.spnode asF_sp (i := 1) (by decide) spN_F)
  go_wp2_with fail
  refine (CO.out).mono ?_; rintro e x2 ⟨rfl, hb⟩
  have HS3 := Lib.hid (HS2.out.later hb)
  clear hb CO e0 e1 e2 e3 HS2
  have e0 := HS3.out.d.load
  have e1 := HS3.out.n.load
  have e2 := HS3.out.s.load
  have e3 := HS3.out.f.load
  have CO := Lib.hid (HS3.out.f.isD.rwrap asF_sp.sm 7 2 3)
  go_wp2_with fail
  refine (CO.out).mono ?_; intro e x3 hp; obtain ⟨s, rfl, ho, hb⟩ := hp
  have HI : Hid (IsD asR (.agg #[s]) x3) := ho.isD
  have HS4 := Lib.hid (HS3.out.later hb)
  clear hb ho CO e0 e1 e2 e3 HS3
  have e0 := HS4.out.d.load
  have e1 := HS4.out.n.load
  have e2 := HS4.out.s.load
  have e3 := HS4.out.f.load
  have CO := Lib.hid (HI.out.spof asR_sp spD_R)
  go_wp2_with fail
  refine (CO.out).mono ?_; rintro e x4 ⟨rfl, hb⟩
  have HS5 := Lib.hid (HS4.out.later hb)
  clear hb CO e0 e1 e2 e3 HS4
  clear HI
  have e0 := HS5.out.d.load
  have e1 := HS5.out.n.load
  have e2 := HS5.out.s.load
  have e3 := HS5.out.f.load
  have CO := Lib.hid (HS5.out.n.isD.rpair HS5.out.d.isD asN_sp.sm asD_sp.sm 5)
  go_wp2_with fail
  refine (CO.out).mono ?_; intro e x5 hp; obtain ⟨s, rfl, ho, hb⟩ := hp
  have HI : Hid (IsD asO (.agg #[s]) x5) := ho.isD
  have HS6 := Lib.hid (HS5.out.later hb)
  clear hb ho CO e0 e1 e2 e3 HS5
  have e0 := HS6.out.d.load
  have e1 := HS6.out.n.load
  have e2 := HS6.out.s.load
  have e3 := HS6.out.f.load
  have CO := Lib.hid (HI.out.spof asO_sp spD_O)
  go_wp2_with fail
  refine (CO.out).mono ?_; rintro e x6 ⟨rfl, hb⟩
  have HS7 := Lib.hid (HS6.out.later hb)
  clear hb CO e0 e1 e2 e3 HS6
  clear HI
  have e0 := HS7.out.d.load
  have e1 := HS7.out.n.load
  have e2 := HS7.out.s.load
  have e3 := HS7.out.f.load
  have CO := Lib.hid (HS7.out.n.isD.rwrap asN_sp.sm 6 0 0)
  go_wp2_with fail
  refine (CO.out).mono ?_; intro e x7 hp; obtain ⟨s, rfl, ho, hb⟩ := hp
  have HI : Hid (IsD asT (.agg #[s]) x7) := ho.isD
  have HS8 := Lib.hid (HS7.out.later hb)
  clear hb ho CO e0 e1 e2 e3 HS7
  have e0 := HS8.out.d.load
  have e1 := HS8.out.n.load
  have e2 := HS8.out.s.load
  have e3 := HS8.out.f.load
  have CO := Lib.hid (HI.out.spof asT_sp spD_T)
  go_wp2_with fail
  refine (CO.out).mono ?_; rintro e x8 ⟨rfl, hb⟩
  have HS9 := Lib.hid (HS8.out.later hb)
  clear hb CO e0 e1 e2 e3 HS8
  clear HI
  go_wp2
  go_ret
  exact ⟨rfl, HS9.out.bel⟩
end Go.Proofs.Ytplgokgjcclhaaa
/- The statement SpanTells of layer 10, walked. -/
namespace Go.Proofs.Ytplgokgjcclhaaa
open Go Go.RowKit
set_option linter.unusedVariables false
set_option linter.unusedSimpArgs false

theorem FstS.isDs {w0 w : World} {A : Option Addr} {l : List Nd} {c : Nat} (h : FstS w0 A l c w) (hc : l.length ≤ c) : IsD l (.agg #[.slice A l.length c]) w := ⟨A, c, hc, rfl, h.row⟩
set_option maxHeartbeats 64000000 in
set_option maxRecDepth 1000000 in
theorem spantells_walk (l : List Nd) (A : Option Addr) (c q : Nat) (hq : q < 65536) (hc1 : l.length ≤ c) (hl : l.length ≤ 9223372036854775807) (htx : Txt l) (w : World) (hrow : NRow w A l) :
    Calls Try.prog 3 #[.agg #[.slice A l.length c], .int .u16 (q : Int)] w (Ans w (.bool true)) := by
  have HB := (Below.refl w.heap.size w).alloc (Nat.le_refl _) (.cells #[.slice A l.length c] 24)
  have HS0 : Hid (FstS w A l c (w.alloc (.cells #[.slice A l.length c] 24))) := ⟨HB, hrow.later HB, Blk.new _ _ _⟩
  have HTX := Lib.hid htx
  clear hrow HB htx
  go_enter Try.func3, Try.ntmps3
  go_upto_region 1 with (fail)
  generalize w.alloc (.cells #[.slice A l.length c] 24) = w1 at *
  go_wp2_with fail
  refine (awake10_any _).mono ?_; rintro e w2 ⟨rfl, hb⟩
  have HS2 := Lib.hid (HS0.out.later hb)
  clear hb HS0
  have e0 := HS2.out.box.cell 0
  simp at e0
  have HF := Lib.hid (few_any l A c hl HTX.out _ HS2.out.row)
  cases hf : fewB l with
  | false =>
    rw [hf] at HF
    clear hf
    go_wp2_with fail
    refine HF.out.mono ?_; rintro e w3 ⟨rfl, hb⟩
    have HS3 := Lib.hid (HS2.out.later hb)
    clear hb e0 HF HS2
    go_wp2_with fail
    refine (awake10_any _).mono ?_; rintro e WN ⟨rfl, hb⟩
    have HSY := Lib.hid (HS3.out.later hb)
    clear hb
    go_wp2
    go_ret
    exact ⟨rfl, HSY.out.bel⟩
  | true =>
    rw [hf] at HF
    have L1 := Lib.hid (few_txt hf).1
    have HFW := Lib.hid hf
    clear hf
    go_wp2_with fail
    refine HF.out.mono ?_; rintro e w3 ⟨rfl, hb⟩
    have HS3 := Lib.hid (HS2.out.later hb)
    clear hb e0 HF HS2
    have e0 := HS3.out.box.cell 0
    simp at e0
    have HF := Lib.hid (rright_any l A c hc1 (by have := L1.out; omega) HTX.out _ HS3.out.row)
    cases hf : rgB l with
    | false =>
      rw [hf] at HF
      clear hf
      go_wp2_with fail
      refine HF.out.mono ?_; rintro e w4 ⟨rfl, hb⟩
      have HS4 := Lib.hid (HS3.out.later hb)
      clear hb e0 HF HS3
      go_wp2_with fail
      refine (awake10_any _).mono ?_; rintro e WN ⟨rfl, hb⟩
      have HSY := Lib.hid (HS4.out.later hb)
      clear hb
      go_wp2
      go_ret
      exact ⟨rfl, HSY.out.bel⟩
    | true =>
      rw [hf] at HF
      have hrg := (rgB_iff l).1 hf
      have HRG := Lib.hid hrg
      have HSP := Lib.hid (few_sp HFW.out hrg.1)
      have hpos := hrg.1.1
      have hlen := L1.out
      clear hf hrg
      go_wp2_with fail
      refine HF.out.mono ?_; rintro e w4 ⟨rfl, hb⟩
      have HS4 := Lib.hid (HS3.out.later hb)
      clear hb e0 HF HS3
      have e0 := HS4.out.box.cell 0
      simp at e0
      have hposz : (0 : Int) < (l.length : Int) := by omega
      have hne : ((l.length : Int) == 0) = false := by rw [beq_eq_false_iff_ne]; omega
      have hmod : (q : Int) % (l.length : Int) = ((q % l.length : Nat) : Int) := by omega
      have hil : q % l.length < l.length := Nat.mod_lt _ hpos
      go_upto_region 4 with (fail)
      generalize hii : q % l.length = i at *
      rw [hmod]
      clear hii hmod hne hposz e0
      obtain ⟨p, hp⟩ : ∃ p, spN l i = p := ⟨_, rfl⟩
      obtain ⟨r, hr⟩ : ∃ r, spD l = r := ⟨_, rfl⟩
      have hr2 : spN l (l.length - 1) = r := hr
      have HI : Hid (∀ w', FstS w A l c w' → Calls Try.prog 11 #[.agg #[.slice A l.length c], .int .i64 ((l.length : Int) - 1)] w' (Ans w' (.tuple #[.int .i64 r.1, .int .i64 r.2]))) := fun w' h => by
        have := (h.isDs hc1).rspnode HSP.out (i := l.length - 1) (by omega) hr2
        rwa [show ((l.length - 1 : Nat) : Int) = (l.length : Int) - 1 by omega] at this
      have CO1 : Hid (∀ w', FstS w A l c w' → Calls Try.prog 10 #[.agg #[.slice A l.length c], .int .i64 (i : Int)] w' (Ans w' (.tuple #[.int .i64 p.1, .int .i64 p.2]))) := fun w' h => (h.isDs hc1).spnode HSP.out hil hp
      have CO2 : Hid (∀ w', FstS w A l c w' → Calls Try.prog 11 #[.agg #[.slice A l.length c], .int .i64 (i : Int)] w' (Ans w' (.tuple #[.int .i64 p.1, .int .i64 p.2]))) := fun w' h => (h.isDs hc1).rspnode HSP.out hil hp
      have CO3 : Hid (∀ w', FstS w A l c w' → Calls Try.prog 12 #[.agg #[.slice A l.length c]] w' (Ans w' (.tuple #[.int .i64 r.1, .int .i64 r.2]))) := fun w' h => (h.isDs hc1).spof HSP.out hr
      clear hp hr hr2
      obtain ⟨a, b⟩ := p
      obtain ⟨x, y⟩ := r
      simp only at HI CO1 CO2 CO3
      have hminus : -9223372036854775808 ≤ (l.length : Int) - 1 := by omega
      have e0 := HS4.out.box.cell 0
      simp at e0
      go_wp2_with fail
      refine (CO1.out _ HS4.out).mono ?_; rintro e y4 ⟨rfl, hb⟩
      have HS5 := Lib.hid (HS4.out.later hb)
      clear hb e0 HS4
      have e0 := HS5.out.box.cell 0
      simp at e0
      go_wp2_with fail
      refine (CO2.out _ HS5.out).mono ?_; rintro e y5 ⟨rfl, hb⟩
      have HS6 := Lib.hid (HS5.out.later hb)
      clear hb e0 HS5
      have e0 := HS6.out.box.cell 0
      simp at e0
      go_wp2_with fail
      refine (CO3.out _ HS6.out).mono ?_; rintro e y6 ⟨rfl, hb⟩
      have HS7 := Lib.hid (HS6.out.later hb)
      clear hb e0 HS6
      have e0 := HS7.out.box.cell 0
      simp at e0
      go_wp2_with fail
      refine (HI.out _ HS7.out).mono ?_; rintro e y7 ⟨rfl, hb⟩
      have HS8 := Lib.hid (HS7.out.later hb)
      clear hb e0 HS7
      have h1 : (a == a) = true := by simp
      have h2 : (b == b) = true := by simp
      have h3 : (x == x) = true := by simp
      have h4 : (y == y) = true := by simp
      go_wp2
      go_ret
      exact ⟨rfl, HS8.out.bel⟩
end Go.Proofs.Ytplgokgjcclhaaa
