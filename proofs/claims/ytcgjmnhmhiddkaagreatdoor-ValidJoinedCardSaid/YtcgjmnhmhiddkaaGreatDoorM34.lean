/- Parse: walked. -/
import Derived.Test.YtcgjmnhmhiddkaaGreatDoorM33
import Derived.Test.YtcgjmnhmhiddkaaGreatDoorM25
import Derived.Test.YtcgjmnhmhiddkaaGreatDoorM16
import Derived.Test.YtcgjmnhmhiddkaaGreatDoorM24
import Derived.Test.YtcgjmnhmhiddkaaGreatDoorM30
import Derived.Test.YtcgjmnhmhiddkaaGreatDoorProg
import Derived.WalkKit
import Derived.Carry
import Derived.Below
namespace Go.Proofs.YtcgjmnhmhiddkaaGreatDoor
open Go Go.RowKit
set_option linter.unusedVariables false
set_option linter.unusedSimpArgs false

/-- How Parse ends. -/
def PParse (w : World) (r : PR) (e : Ending) (w' : World) : Prop := match r with
  | .ok k t => ∃ nv av, e = .returned (.tuple #[.agg #[nv], av, .int .i64 0, .int .i64 0]) ∧ OwnN w' w.heap.size nv t.nodes ∧ OwnI w' w.heap.size av t.ats ∧ Below w.heap.size w w'
  | .bad er p => e = .returned (.tuple #[.agg #[.slice none 0 0], .slice none 0 0, .int .i64 er, .int .i64 p]) ∧ Below w.heap.size w w'
  | .out => False
theorem own_base {w : World} {base base' size n : Nat} {e : TypeId} {v : Value} {xs : List Value} (h : w.ownsRow base e size v n xs) (hb : base' ≤ base) : w.ownsRow base' e size v n xs := by
  obtain ⟨h0, ⟨hv, hn⟩ | ⟨g, cap, cur, hv, hg, hr⟩⟩ := h
  · exact ⟨h0, .inl ⟨hv, hn⟩⟩
  · exact ⟨h0, .inr ⟨g, cap, cur, hv, Nat.le_trans hb hg, hr⟩⟩
set_option maxHeartbeats 4000000 in
set_option maxRecDepth 100000 in
theorem parse_any {l : List Tk} (hl : TkTxt' l) (he : TEnds l) (hlen : l.length < 16777216) (A : Option Addr) (c : Nat) (w : World) (hrow : TkRow w A l) :
    Calls Tryz.prog 53 #[.slice A l.length c] w (PParse w (parseP l)) := by
  have hlow : ∀ b o, A = some ⟨b, o, none⟩ → b < w.heap.size + 1 := fun b o hA => by
    obtain ⟨b', o', h1, h2, _⟩ := hrow 0 he.pos
    rw [hA] at h1; cases h1; omega
  have HB1 := (Below.refl w.heap.size w).alloc (Nat.le_refl _) (.cells #[.slice none 0 0] 25)
  have HB2 := HB1.alloc (by simp) (.cells #[.slice A l.length c, .int .i64 0, .slice none 0 0, .slice none 0 0, .slice none 0 0, .int .i64 0] 151)
  have HD : Hid (Blk ((w.alloc (.cells #[.slice none 0 0] 25)).alloc (.cells #[.slice A l.length c, .int .i64 0, .slice none 0 0, .slice none 0 0, .slice none 0 0, .int .i64 0] 151)) w.heap.size #[.slice none 0 0] 25) := (Blk.new w _ _).alloc _
  have HP : Hid (Pst ((w.alloc (.cells #[.slice none 0 0] 25)).alloc (.cells #[.slice A l.length c, .int .i64 0, .slice none 0 0, .slice none 0 0, .slice none 0 0, .int .i64 0] 151)) (w.heap.size + 1) (w.heap.size + 1) A c l {}) :=
    ⟨.slice none 0 0, .slice none 0 0, .slice none 0 0, Blk.new' (by simp) _ _, ⟨rfl, .inl ⟨rfl, rfl⟩⟩, ⟨rfl, .inl ⟨rfl, rfl⟩⟩, ⟨rfl, .inl ⟨rfl, rfl⟩⟩, fun g hg => (by cases hg), hrow.later HB2, hlow, Nat.le_refl _, by omega, by simp, by simp, by simp⟩
  have HB := Lib.hid HB2
  obtain ⟨r, hr⟩ : ∃ r, parseP l = r := ⟨_, rfl⟩
  have HR : Hid (∀ w B pb, Pst w B pb A c l {} → Calls Tryz.prog 86 #[.pointer (some ⟨pb, 0, none⟩)] w (PrunPost B pb A c l w r)) := fun w B pb h => by
    have q := prun_any hl he h
    rw [hr] at q; exact q
  rw [hr]
  have HN : Hid (∀ er p, r = .bad er p → er ≠ 0) := fun er p h => by rw [h] at hr; have := parse_err hr; omega
  clear hr hrow hlow HB1 HB2
  go_enter Tryz.func53, Tryz.ntmps53
  go_upto_region 2 with (fail)
  generalize (w.alloc (.cells #[.slice none 0 0] 25)).alloc (.cells #[.slice A l.length c, .int .i64 0, .slice none 0 0, .slice none 0 0, .slice none 0 0, .int .i64 0] 151) = w1 at *
  generalize hdb : w.heap.size = db at *
  have HDB := Lib.hid hdb
  clear hdb
  go_wp2_with fail
  refine (HR.out w1 _ _ HP.out).mono ?_; intro e2 w2 hq
  cases r with
  | out => exact absurd hq id
  | bad e p =>
    obtain ⟨rfl, hb2⟩ := hq
    have hne : (e != 0) = true := by rw [bne_iff_ne]; exact HN.out e p rfl
    have HB2 := Lib.hid (HB.out.trans (hb2.mono (Nat.le_succ _)))
    have HD2 : Hid (Blk w2 db #[.slice none 0 0] 25) := (hb2.block db (Nat.lt_succ_self _)).trans HD.out
    clear hb2 HN HR HP HD HB
    unfold ftV
    go_upto_region 3 with (fail)
    have HF3 := Lib.hid (Blk.new w2 #[.int .i64 e, .int .i64 p] 153)
    have HD3 : Hid (Blk (w2.alloc (.cells #[.int .i64 e, .int .i64 p] 153)) db #[.slice none 0 0] 25) := HD2.out.alloc _
    have HB3 : Hid (Below db w (w2.alloc (.cells #[.int .i64 e, .int .i64 p] 153))) := HB2.out.alloc (Nat.le_of_lt HD2.out.lt) _
    generalize w2.alloc (.cells #[.int .i64 e, .int .i64 p] 153) = w3 at *
    generalize w2.heap.size = fb at *
    clear HD2 HB2
    have c0 := HF3.out.cell 0
    have c1 := HF3.out.cell 1
    have d0 := HD3.out.cell 0
    have df := HD3.out.frozen
    simp at c0 c1 d0
    have n1 : fb ≠ db := Blk.typed2 HF3.out HD3.out (by decide)
    have n2 : db ≠ fb := Ne.symm n1
    go_upto_region 4 with (fail)
    go_region
    go_wp2
    have x0 := (HD3.out.setCell 0 (.slice none 0 0)).cell 0
    simp at x0
    exact bodyPost_ret (v := .tuple #[.agg #[.slice none 0 0], .slice none 0 0, .int .i64 e, .int .i64 p]) (by simp [results, Tryz.results53, go_sem, d0]) rfl (by
      unfold PParse
      rw [HDB.out]
      exact ⟨rfl, (HB3.out.setCell (p := ⟨db, 0, none⟩) (Nat.le_refl _) (.slice none 0 0)).drew⟩)
  | ok k t =>
    obtain ⟨rfl, hP2, hb2⟩ := hq
    have hne : ((0 : Int) != 0) = false := rfl
    have HB2 := Lib.hid (HB.out.trans (hb2.mono (Nat.le_succ _)))
    have HD2 : Hid (Blk w2 db #[.slice none 0 0] 25) := (hb2.block db (Nat.lt_succ_self _)).trans HD.out
    obtain ⟨ov, nv, av, h0⟩ := hP2
    obtain ⟨an, kn, rfl, -⟩ := h0.nodes.row
    obtain ⟨aa, ka, rfl, -⟩ := h0.ats.row
    have H0 := Lib.hid h0
    clear hb2 HN HR HP HD HB h0
    unfold ftV
    go_upto_region 3 with (fail)
    have HF3 := Lib.hid (Blk.new w2 #[.int .i64 0, .int .i64 0] 153)
    have HD3 : Hid (Blk (w2.alloc (.cells #[.int .i64 0, .int .i64 0] 153)) db #[.slice none 0 0] 25) := HD2.out.alloc _
    have HB3 : Hid (Below db w (w2.alloc (.cells #[.int .i64 0, .int .i64 0] 153))) := HB2.out.alloc (Nat.le_of_lt HD2.out.lt) _
    have H3 := Lib.hid (H0.out.later ((Below.refl _ _).alloc (Nat.le_refl _) (.cells #[.int .i64 0, .int .i64 0] 153)))
    generalize w2.alloc (.cells #[.int .i64 0, .int .i64 0] 153) = w3 at *
    generalize w2.heap.size = fb at *
    clear HD2 HB2 H0
    have c0 := HF3.out.cell 0
    have c1 := HF3.out.cell 1
    have d0 := HD3.out.cell 0
    have df := HD3.out.frozen
    have p3 := H3.out.blk.cell 3
    have p4 := H3.out.blk.cell 4
    simp at c0 c1 d0 p3 p4
    have n1 : fb ≠ db := Blk.typed2 HF3.out HD3.out (by decide)
    have n2 : db ≠ fb := Ne.symm n1
    have n3 : db + 1 ≠ db := by omega
    have n4 : db ≠ db + 1 := by omega
    have HN5 : Hid (OwnN (w3.setCell ⟨db, 0, none⟩ (.slice an t.nodes.length kn)) db (.slice an t.nodes.length kn) t.nodes) := own_base (own_set H3.out.nodes (own_typed H3.out.nodes HD3.out (by decide)) _) (Nat.le_succ _)
    have HA5 : Hid (OwnI (w3.setCell ⟨db, 0, none⟩ (.slice an t.nodes.length kn)) db (.slice aa t.ats.length ka) t.ats) := own_base (own_set H3.out.ats (own_typed H3.out.ats HD3.out (by decide)) _) (Nat.le_succ _)
    go_upto_region 5 with (fail)
    go_region
    go_wp2
    exact bodyPost_ret (v := .tuple #[.agg #[.slice an t.nodes.length kn], .slice aa t.ats.length ka, .int .i64 0, .int .i64 0]) (by simp [results, Tryz.results53, go_sem, d0]) rfl (by
      unfold PParse
      rw [HDB.out]
      exact ⟨_, _, rfl, HN5.out, HA5.out, (HB3.out.setCell (p := ⟨db, 0, none⟩) (Nat.le_refl _) _).drew⟩)
end Go.Proofs.YtcgjmnhmhiddkaaGreatDoor
/- Sizes: sums, times, parts, bounds: walked. -/
namespace Go.Proofs.YtcgjmnhmhiddkaaGreatDoor
open Go Go.RowKit
set_option linter.unusedVariables false
set_option linter.unusedSimpArgs false

/-- Numbers as the rows have them. -/
def natI (l : List Nat) : List Int := l.map (fun n : Nat => (n : Int))
theorem natI_length (l : List Nat) : (natI l).length = l.length := List.length_map _
theorem natI_get {l : List Nat} {i : Nat} (h : i < l.length) : (natI l).getD i 0 = ((l.getD i 0 : Nat) : Int) := by
  unfold natI
  rw [List.getD_eq_getElem?_getD, List.getD_eq_getElem?_getD, List.getElem?_map, List.getElem?_eq_getElem h]; rfl
end Go.Proofs.YtcgjmnhmhiddkaaGreatDoor
/- Ways of nothing: what they are made of, walked. -/
namespace Go.Proofs.YtcgjmnhmhiddkaaGreatDoor
open Go Go.RowKit
set_option linter.unusedVariables false
set_option linter.unusedSimpArgs false

set_option maxHeartbeats 4000000 in
set_option maxRecDepth 100000 in
theorem nmost_any (n : Nat) (hn : n ≤ 1000) (w : World) : Calls Tryz.prog 96 #[.int .i64 (n : Int)] w (Pure w (.int .i64 ((min n 2 : Nat) : Int))) := by
  have e : ((min n 2 : Nat) : Int) = min (n : Int) 2 := by omega
  rw [e]
  clear e
  go_enter Tryz.func96, Tryz.ntmps96
  go_wp2
  go_ret
  exact ⟨rfl, rfl⟩
set_option maxHeartbeats 4000000 in
set_option maxRecDepth 100000 in
theorem npower_any (a : Nat) (k : Int) (w : World) : Calls Tryz.prog 123 #[.int .i64 (a : Int), .int .i64 k] w (Pure w (.int .i64 ((powW a k : Nat) : Int))) := by
  by_cases h : k = 0
  · subst h
    have hz : ((0 : Int) == 0) = true := rfl
    have e : powW a 0 = 1 := by unfold powW; rw [if_pos rfl]
    rw [e]
    go_enter Tryz.func123, Tryz.ntmps123
    go_wp2
    go_ret
    exact ⟨rfl, rfl⟩
  · have hz : (k == 0) = false := by rw [beq_eq_false_iff_ne]; exact h
    have e : powW a k = a := by unfold powW; rw [if_neg h]
    rw [e]
    clear h e
    go_enter Tryz.func123, Tryz.ntmps123
    go_wp2
    go_ret
    exact ⟨rfl, rfl⟩
set_option maxHeartbeats 4000000 in
set_option maxRecDepth 100000 in
theorem ntimes_any (a : Nat) (ha : a ≤ 2) (lo hi : Int) (h1 : -9223372036854775808 ≤ lo) (h2 : hi ≤ 9223372036854775807) (w : World) : Calls Tryz.prog 100 #[.int .i64 (a : Int), .int .i64 lo, .int .i64 hi] w (Pure w (.int .i64 ((tmsW a lo hi : Nat) : Int))) := by
  have CP := Lib.hid (npower_any a lo w)
  have CQ := Lib.hid (npower_any a (lo + 1) w)
  have hp := powW_le ha lo
  have hq := powW_le ha (lo + 1)
  by_cases h : lo < hi
  · have e : tmsW a lo hi = min (powW a lo + powW a (lo + 1)) 2 := by unfold tmsW; rw [if_pos h]
    rw [e]
    clear e
    generalize powW a lo = p at *
    generalize powW a (lo + 1) = q at *
    have CM := Lib.hid (nmost_any (p + q) (by omega) w)
    have hs : ((p + q : Nat) : Int) = (p : Int) + (q : Int) := by omega
    rw [hs] at CM
    clear hs
    go_enter Tryz.func100, Tryz.ntmps100
    go_wp2_with fail
    refine CP.out.mono ?_; rintro e w2 ⟨rfl, rfl⟩
    go_wp2_with fail
    refine CQ.out.mono ?_; rintro e w2 ⟨rfl, rfl⟩
    go_wp2_with fail
    refine CM.out.mono ?_; rintro e w2 ⟨rfl, rfl⟩
    go_wp2
    go_ret
    exact ⟨rfl, rfl⟩
  · have e : tmsW a lo hi = min (powW a lo) 2 := by unfold tmsW; rw [if_neg h]; rfl
    rw [e]
    clear e
    generalize powW a lo = p at *
    have hm : min p 2 = p := by omega
    have CM := Lib.hid (nmost_any p (by omega) w)
    rw [hm] at CM ⊢
    clear hm
    go_enter Tryz.func100, Tryz.ntmps100
    go_wp2_with fail
    refine CP.out.mono ?_; rintro e w2 ⟨rfl, rfl⟩
    go_wp2_with fail
    refine CM.out.mono ?_; rintro e w2 ⟨rfl, rfl⟩
    go_wp2
    go_ret
    exact ⟨rfl, rfl⟩
set_option maxHeartbeats 4000000 in
set_option maxRecDepth 100000 in
theorem npart_any (S : List Nat) (a : Int) (A : Option Addr) (c : Nat) (w : World) (hrow : IRow w A (natI S)) :
    Calls Tryz.prog 43 #[.slice A S.length c, .int .i64 a] w (Pure w (.int .i64 ((partS S a : Nat) : Int))) := by
  go_enter Tryz.func43, Tryz.ntmps43
  by_cases h0 : a < 0
  · have e : partS S a = 0 := by unfold partS; rw [if_neg (by omega)]
    rw [e]
    go_wp2
    go_ret
    exact ⟨rfl, rfl⟩
  · by_cases h1 : a < (S.length : Int)
    · obtain ⟨k, rfl⟩ : ∃ k : Nat, a = (k : Int) := ⟨a.toNat, by omega⟩
      have hk : k < S.length := by omega
      obtain ⟨b, off, rfl, -, hc⟩ := hrow k (by rw [natI_length]; exact hk)
      rw [natI_get hk] at hc
      have e : partS S (k : Int) = S.getD k 0 := by unfold partS; rw [if_pos (by omega)]; rfl
      rw [e]
      generalize S.getD k 0 = x at *
      have h2 : ¬ (k : Int) ≥ (S.length : Int) := by omega
      go_wp2
      go_ret
      exact ⟨rfl, rfl⟩
    · have e : partS S a = 0 := by unfold partS; rw [if_neg (by omega)]
      rw [e]
      have h2 : a ≥ (S.length : Int) := by omega
      go_wp2
      go_ret
      exact ⟨rfl, rfl⟩
/-- The one who tells a part's ways. -/
def fnW (bw : Nat) : Value := .func (.func 63) #[] #[.pointer (some ⟨bw, 0, none⟩)]
/-- What is known when a node is come to. -/
structure KwS (bf bw : Nat) (A : Option Addr) (c : Nat) (S : List Nat) (w : World) : Prop where
  fn : Blk w bf #[fnW bw] 116
  box : Blk w bw #[.slice A S.length c] 46
  row : IRow w A (natI S)
theorem KwS.later {bf bw : Nat} {A : Option Addr} {c : Nat} {S : List Nat} {w w' : World} (h : KwS bf bw A c S w) (hb : Below w.heap.size w w') : KwS bf bw A c S w' := ⟨h.fn.later hb, h.box.later hb, h.row.later hb⟩
set_option maxHeartbeats 4000000 in
set_option maxRecDepth 100000 in
theorem told1_any {bf bw : Nat} {A : Option Addr} {c : Nat} {S : List Nat} (a : Int) {w : World} (h : KwS bf bw A c S w) :
    Calls Tryz.prog 63 #[.int .i64 a, .pointer (some ⟨bw, 0, none⟩)] w (Pure w (.int .i64 ((partS S a : Nat) : Int))) := by
  have e0 := h.box.cell 0
  simp at e0
  have CP := Lib.hid (npart_any S a A c w h.row)
  clear h
  go_enter Tryz.func63, Tryz.ntmps63
  go_wp2_with fail
  refine CP.out.mono ?_; rintro e w2 ⟨rfl, rfl⟩
  go_wp2
  go_ret
  exact ⟨rfl, rfl⟩
structure NnS (w0 : World) (n : Nd) (bf bw : Nat) (A : Option Addr) (c : Nat) (S : List Nat) (w : World) : Prop where
  bel : Below w0.heap.size w0 w
  box : Blk w w0.heap.size (ndC n) 44
  kw : KwS bf bw A c S w
theorem NnS.later {w0 w w' : World} {n : Nd} {bf bw : Nat} {A : Option Addr} {c : Nat} {S : List Nat} (h : NnS w0 n bf bw A c S w) (hb : Below w.heap.size w w') : NnS w0 n bf bw A c S w' := ⟨h.bel.trans (hb.mono h.bel.size), h.box.later hb, h.kw.later hb⟩
set_option maxHeartbeats 4000000 in
set_option maxRecDepth 100000 in
theorem nk1_any (n : Nd) (w : World) : Calls Tryz.prog 94 #[.agg (ndC n)] w (Ans w (.int .i64 ((1 : Nat) : Int))) := by
  have hb := (Below.refl w.heap.size w).alloc (Nat.le_refl _) (.cells (ndC n) 44)
  obtain ⟨kind, a, b, lo, hi, cls, text⟩ := n
  unfold ndC at hb ⊢
  simp only at hb ⊢
  have HB := Lib.hid hb
  clear hb
  go_enter Tryz.func94, Tryz.ntmps94
  go_wp2
  go_ret
  exact ⟨rfl, HB.out⟩
set_option maxHeartbeats 16000000 in
set_option maxRecDepth 100000 in
theorem nk2_any (n : Nd) (hk : n.kind = 4) {bf bw : Nat} {A : Option Addr} {c : Nat} {S : List Nat} (hS : ∀ x ∈ S, x ≤ 2) (hl : True) (w : World) (h : KwS bf bw A c S w) : Calls Tryz.prog 95 #[.agg (ndC n), .pointer (some ⟨bf, 0, none⟩)] w (Ans w (.int .i64 ((waysW n S : Nat) : Int))) := by
  have HS0 : Hid (NnS w n bf bw A c S (w.alloc (.cells (ndC n) 44))) :=
    ⟨(Below.refl _ _).alloc (Nat.le_refl _) _, Blk.new _ _ _, h.later ((Below.refl _ _).alloc (Nat.le_refl _) _)⟩
  clear h
  obtain ⟨kind, a, b, lo, hi, cls, text⟩ := n
  simp only at hk hl
  have hent := enters_of Tryz.func63 (by kernel_rfl) rfl
  have hpa := partS_two hS a
  have CA : Hid (∀ w', NnS w ⟨kind, a, b, lo, hi, cls, text⟩ bf bw A c S w' → Calls Tryz.prog 63 #[.int .i64 a, .pointer (some ⟨bw, 0, none⟩)] w' (Pure w' (.int .i64 ((partS S a : Nat) : Int)))) := fun w' h => told1_any a h.kw
  have CB : Hid (∀ w', NnS w ⟨kind, a, b, lo, hi, cls, text⟩ bf bw A c S w' → Calls Tryz.prog 63 #[.int .i64 b, .pointer (some ⟨bw, 0, none⟩)] w' (Pure w' (.int .i64 ((partS S b : Nat) : Int)))) := fun w' h => told1_any b h.kw
  have hpb := partS_two hS b
  have e : waysW ⟨kind, a, b, lo, hi, cls, text⟩ S = min (partS S a * partS S b) 2 := by subst hk; simp [waysW]
  rw [e]
  clear e hk
  generalize partS S a = x at *
  generalize partS S b = y at *
  unfold ndC at HS0 ⊢
  simp only at HS0 ⊢
  go_enter Tryz.func95, Tryz.ntmps95
  go_upto_region 1 with (fail)
  generalize w.alloc (.cells #[.int .i64 kind, .int .i64 a, .int .i64 b, .int .i64 lo, .int .i64 hi, .int .u64 (wd cls 0), .int .u64 (wd cls 1), .int .u64 (wd cls 2), .int .u64 (wd cls 3), .string (bs text)] 44) = w1 at *
  have hxy : x * y ≤ 4 := by exact Nat.mul_le_mul hpa hpb
  have hc : ((x * y : Nat) : Int) = (x : Int) * (y : Int) := by simp
  have CM : Hid (∀ w', Calls Tryz.prog 96 #[.int .i64 ((x : Int) * (y : Int))] w' (Pure w' (.int .i64 ((min (x * y) 2 : Nat) : Int)))) := fun w' => by rw [← hc]; exact nmost_any (x * y) (by omega) w'
  generalize min (x * y) 2 = z at *
  have hi1 : (x : Int) * (y : Int) ≤ 4 := by rw [← hc]; omega
  have hi0 : 0 ≤ (x : Int) * (y : Int) := by rw [← hc]; omega
  clear hc hxy
  refine wp_region_stable_tail 9 (S := (NnS w ⟨kind, a, b, lo, hi, cls, text⟩ bf bw A c S)) (hSt := fun _ _ h hb => h.later hb) (plan := [[(1, none)], [(2, none)], [(5, some 1)], [(4, some 0), (6, some 2)], [(1, none)], [(2, none)], [(9, some 5)], [(8, some 4), (10, some 6)], [(7, some 3), (11, some 7)]]) rfl rfl (by kernel_rfl) (by kernel_rfl) (by kernel_rfl) (by kernel_rfl) ?hS ?_
  rotate_left
  iterate 9 first
    | (refine chain_skip (by rfl) (by rfl) ?_)
    | (apply chain_want (by rfl)
       · intro act wx hS hr
         simp at hr
         obtain ⟨f0, f1, f2, f3, f4, f5, f6, f7, f8, f9⟩ := ten_cells hS.box
         have k0 := hS.kw.fn.cell 0
         simp [fnW] at k0
         go_simp
         (try go_ints)
         first
           | ((with_reducible refine (CA.out _ hS).mono ?_); rintro e w' ⟨rfl, rfl⟩; exact Done.same)
           | ((with_reducible refine (CB.out _ hS).mono ?_); rintro e w' ⟨rfl, rfl⟩; exact Done.same)
           | exact Done.same
      )
  show ∀ w', _ → _
  intro wz hz
  simp [Act.put]
  case hS => exact HS0.out
  have HB := Lib.hid hz.bel
  clear hz
  go_wp2_with fail
  refine (CM.out _).mono ?_
  rintro e w2 ⟨rfl, rfl⟩
  go_wp2
  go_ret
  exact ⟨rfl, HB.out⟩
set_option maxHeartbeats 16000000 in
set_option maxRecDepth 100000 in
theorem nk3_any (n : Nd) (hk : n.kind = 5) {bf bw : Nat} {A : Option Addr} {c : Nat} {S : List Nat} (hS : ∀ x ∈ S, x ≤ 2) (hl : True) (w : World) (h : KwS bf bw A c S w) : Calls Tryz.prog 97 #[.agg (ndC n), .pointer (some ⟨bf, 0, none⟩)] w (Ans w (.int .i64 ((waysW n S : Nat) : Int))) := by
  have HS0 : Hid (NnS w n bf bw A c S (w.alloc (.cells (ndC n) 44))) :=
    ⟨(Below.refl _ _).alloc (Nat.le_refl _) _, Blk.new _ _ _, h.later ((Below.refl _ _).alloc (Nat.le_refl _) _)⟩
  clear h
  obtain ⟨kind, a, b, lo, hi, cls, text⟩ := n
  simp only at hk hl
  have hent := enters_of Tryz.func63 (by kernel_rfl) rfl
  have hpa := partS_two hS a
  have CA : Hid (∀ w', NnS w ⟨kind, a, b, lo, hi, cls, text⟩ bf bw A c S w' → Calls Tryz.prog 63 #[.int .i64 a, .pointer (some ⟨bw, 0, none⟩)] w' (Pure w' (.int .i64 ((partS S a : Nat) : Int)))) := fun w' h => told1_any a h.kw
  have CB : Hid (∀ w', NnS w ⟨kind, a, b, lo, hi, cls, text⟩ bf bw A c S w' → Calls Tryz.prog 63 #[.int .i64 b, .pointer (some ⟨bw, 0, none⟩)] w' (Pure w' (.int .i64 ((partS S b : Nat) : Int)))) := fun w' h => told1_any b h.kw
  have hpb := partS_two hS b
  have e : waysW ⟨kind, a, b, lo, hi, cls, text⟩ S = min (partS S a + partS S b) 2 := by subst hk; simp [waysW]
  rw [e]
  clear e hk
  generalize partS S a = x at *
  generalize partS S b = y at *
  unfold ndC at HS0 ⊢
  simp only at HS0 ⊢
  go_enter Tryz.func97, Tryz.ntmps97
  go_upto_region 1 with (fail)
  generalize w.alloc (.cells #[.int .i64 kind, .int .i64 a, .int .i64 b, .int .i64 lo, .int .i64 hi, .int .u64 (wd cls 0), .int .u64 (wd cls 1), .int .u64 (wd cls 2), .int .u64 (wd cls 3), .string (bs text)] 44) = w1 at *
  have hxy : x + y ≤ 4 := by omega
  have hc : ((x + y : Nat) : Int) = (x : Int) + (y : Int) := by simp
  have CM : Hid (∀ w', Calls Tryz.prog 96 #[.int .i64 ((x : Int) + (y : Int))] w' (Pure w' (.int .i64 ((min (x + y) 2 : Nat) : Int)))) := fun w' => by rw [← hc]; exact nmost_any (x + y) (by omega) w'
  generalize min (x + y) 2 = z at *
  have hi1 : (x : Int) + (y : Int) ≤ 4 := by rw [← hc]; omega
  have hi0 : 0 ≤ (x : Int) + (y : Int) := by rw [← hc]; omega
  clear hc hxy
  refine wp_region_stable_tail 9 (S := (NnS w ⟨kind, a, b, lo, hi, cls, text⟩ bf bw A c S)) (hSt := fun _ _ h hb => h.later hb) (plan := [[(1, none)], [(2, none)], [(5, some 1)], [(4, some 0), (6, some 2)], [(1, none)], [(2, none)], [(9, some 5)], [(8, some 4), (10, some 6)], [(7, some 3), (11, some 7)]]) rfl rfl (by kernel_rfl) (by kernel_rfl) (by kernel_rfl) (by kernel_rfl) ?hS ?_
  rotate_left
  iterate 9 first
    | (refine chain_skip (by rfl) (by rfl) ?_)
    | (apply chain_want (by rfl)
       · intro act wx hS hr
         simp at hr
         obtain ⟨f0, f1, f2, f3, f4, f5, f6, f7, f8, f9⟩ := ten_cells hS.box
         have k0 := hS.kw.fn.cell 0
         simp [fnW] at k0
         go_simp
         (try go_ints)
         first
           | ((with_reducible refine (CA.out _ hS).mono ?_); rintro e w' ⟨rfl, rfl⟩; exact Done.same)
           | ((with_reducible refine (CB.out _ hS).mono ?_); rintro e w' ⟨rfl, rfl⟩; exact Done.same)
           | exact Done.same
      )
  show ∀ w', _ → _
  intro wz hz
  simp [Act.put]
  case hS => exact HS0.out
  have HB := Lib.hid hz.bel
  clear hz
  go_wp2_with fail
  refine (CM.out _).mono ?_
  rintro e w2 ⟨rfl, rfl⟩
  go_wp2
  go_ret
  exact ⟨rfl, HB.out⟩
set_option maxHeartbeats 16000000 in
set_option maxRecDepth 100000 in
theorem nk4_any (n : Nd) (hk : n.kind = 6) {bf bw : Nat} {A : Option Addr} {c : Nat} {S : List Nat} (hS : ∀ x ∈ S, x ≤ 2) (hl : True) (w : World) (h : KwS bf bw A c S w) : Calls Tryz.prog 98 #[.agg (ndC n), .pointer (some ⟨bf, 0, none⟩)] w (Ans w (.int .i64 ((waysW n S : Nat) : Int))) := by
  have HS0 : Hid (NnS w n bf bw A c S (w.alloc (.cells (ndC n) 44))) :=
    ⟨(Below.refl _ _).alloc (Nat.le_refl _) _, Blk.new _ _ _, h.later ((Below.refl _ _).alloc (Nat.le_refl _) _)⟩
  clear h
  obtain ⟨kind, a, b, lo, hi, cls, text⟩ := n
  simp only at hk hl
  have hent := enters_of Tryz.func63 (by kernel_rfl) rfl
  have hpa := partS_two hS a
  have CA : Hid (∀ w', NnS w ⟨kind, a, b, lo, hi, cls, text⟩ bf bw A c S w' → Calls Tryz.prog 63 #[.int .i64 a, .pointer (some ⟨bw, 0, none⟩)] w' (Pure w' (.int .i64 ((partS S a : Nat) : Int)))) := fun w' h => told1_any a h.kw
  have CB : Hid (∀ w', NnS w ⟨kind, a, b, lo, hi, cls, text⟩ bf bw A c S w' → Calls Tryz.prog 63 #[.int .i64 b, .pointer (some ⟨bw, 0, none⟩)] w' (Pure w' (.int .i64 ((partS S b : Nat) : Int)))) := fun w' h => told1_any b h.kw
  have hpb := partS_two hS b
  have e : waysW ⟨kind, a, b, lo, hi, cls, text⟩ S = min (1 + partS S a) 2 := by subst hk; simp [waysW]
  rw [e]
  clear e hk
  generalize partS S a = x at *
  generalize partS S b = y at *
  unfold ndC at HS0 ⊢
  simp only at HS0 ⊢
  go_enter Tryz.func98, Tryz.ntmps98
  go_upto_region 1 with (fail)
  generalize w.alloc (.cells #[.int .i64 kind, .int .i64 a, .int .i64 b, .int .i64 lo, .int .i64 hi, .int .u64 (wd cls 0), .int .u64 (wd cls 1), .int .u64 (wd cls 2), .int .u64 (wd cls 3), .string (bs text)] 44) = w1 at *
  have CM : Hid (∀ w', Calls Tryz.prog 96 #[.int .i64 (1 + (x : Int))] w' (Pure w' (.int .i64 ((min (1 + x) 2 : Nat) : Int)))) := fun w' => by rw [show (1 + (x : Int)) = ((1 + x : Nat) : Int) by omega]; exact nmost_any (1 + x) (by omega) w'
  generalize min (1 + x) 2 = z at *
  obtain ⟨f0, f1, f2, f3, f4, f5, f6, f7, f8, f9⟩ := ten_cells HS0.out.box
  have k0 := HS0.out.kw.fn.cell 0
  simp [fnW] at k0
  go_wp2_with fail
  refine (CA.out _ HS0.out).mono ?_
  rintro e w2 ⟨rfl, rfl⟩
  go_wp2_with fail
  refine (CM.out _).mono ?_
  rintro e w2 ⟨rfl, rfl⟩
  go_wp2
  go_ret
  exact ⟨rfl, HS0.out.bel⟩
set_option maxHeartbeats 16000000 in
set_option maxRecDepth 100000 in
theorem nk5_any (n : Nd) (hk : n.kind = 7) {bf bw : Nat} {A : Option Addr} {c : Nat} {S : List Nat} (hS : ∀ x ∈ S, x ≤ 2) (hl : -9223372036854775808 ≤ n.lo ∧ n.hi ≤ 9223372036854775807) (w : World) (h : KwS bf bw A c S w) : Calls Tryz.prog 99 #[.agg (ndC n), .pointer (some ⟨bf, 0, none⟩)] w (Ans w (.int .i64 ((waysW n S : Nat) : Int))) := by
  have HS0 : Hid (NnS w n bf bw A c S (w.alloc (.cells (ndC n) 44))) :=
    ⟨(Below.refl _ _).alloc (Nat.le_refl _) _, Blk.new _ _ _, h.later ((Below.refl _ _).alloc (Nat.le_refl _) _)⟩
  clear h
  obtain ⟨kind, a, b, lo, hi, cls, text⟩ := n
  simp only at hk hl
  have hent := enters_of Tryz.func63 (by kernel_rfl) rfl
  have hpa := partS_two hS a
  have CA : Hid (∀ w', NnS w ⟨kind, a, b, lo, hi, cls, text⟩ bf bw A c S w' → Calls Tryz.prog 63 #[.int .i64 a, .pointer (some ⟨bw, 0, none⟩)] w' (Pure w' (.int .i64 ((partS S a : Nat) : Int)))) := fun w' h => told1_any a h.kw
  have CB : Hid (∀ w', NnS w ⟨kind, a, b, lo, hi, cls, text⟩ bf bw A c S w' → Calls Tryz.prog 63 #[.int .i64 b, .pointer (some ⟨bw, 0, none⟩)] w' (Pure w' (.int .i64 ((partS S b : Nat) : Int)))) := fun w' h => told1_any b h.kw
  have hpb := partS_two hS b
  have e : waysW ⟨kind, a, b, lo, hi, cls, text⟩ S = tmsW (partS S a) lo hi := by subst hk; simp [waysW]
  rw [e]
  clear e hk
  generalize partS S a = x at *
  generalize partS S b = y at *
  unfold ndC at HS0 ⊢
  simp only at HS0 ⊢
  go_enter Tryz.func99, Tryz.ntmps99
  go_upto_region 1 with (fail)
  generalize w.alloc (.cells #[.int .i64 kind, .int .i64 a, .int .i64 b, .int .i64 lo, .int .i64 hi, .int .u64 (wd cls 0), .int .u64 (wd cls 1), .int .u64 (wd cls 2), .int .u64 (wd cls 3), .string (bs text)] 44) = w1 at *
  have CM : Hid (∀ w', Calls Tryz.prog 100 #[.int .i64 (x : Int), .int .i64 lo, .int .i64 hi] w' (Pure w' (.int .i64 ((tmsW x lo hi : Nat) : Int)))) := fun w' => ntimes_any x hpa lo hi hl.1 hl.2 w'
  generalize tmsW x lo hi = z at *
  refine wp_region_stable_tail 8 (S := (NnS w ⟨kind, a, b, lo, hi, cls, text⟩ bf bw A c S)) (hSt := fun _ _ h hb => h.later hb) (plan := [[(1, none)], [(2, none)], [(5, some 1)], [(4, some 0), (6, some 2)], [(2, none)], [(8, some 4)], [(2, none)], [(10, some 6)]]) rfl rfl (by kernel_rfl) (by kernel_rfl) (by kernel_rfl) (by kernel_rfl) ?hS ?_
  rotate_left
  iterate 8 first
    | (refine chain_skip (by rfl) (by rfl) ?_)
    | (apply chain_want (by rfl)
       · intro act wx hS hr
         simp at hr
         obtain ⟨f0, f1, f2, f3, f4, f5, f6, f7, f8, f9⟩ := ten_cells hS.box
         have k0 := hS.kw.fn.cell 0
         simp [fnW] at k0
         go_simp
         (try go_ints)
         first
           | ((with_reducible refine (CA.out _ hS).mono ?_); rintro e w' ⟨rfl, rfl⟩; exact Done.same)
           | exact Done.same
      )
  show ∀ w', _ → _
  intro wz hz
  simp [Act.put]
  case hS => exact HS0.out
  have HB := Lib.hid hz.bel
  clear hz
  go_wp2_with fail
  refine (CM.out _).mono ?_
  rintro e w2 ⟨rfl, rfl⟩
  go_wp2
  go_ret
  exact ⟨rfl, HB.out⟩
end Go.Proofs.YtcgjmnhmhiddkaaGreatDoor
/- A map whose keys are numbers: what a look-up finds, what a new key leaves. -/
namespace Go.Proofs.YtcgjmnhmhiddkaaGreatDoor
open Go Go.RowKit
set_option linter.unusedVariables false
set_option linter.unusedSimpArgs false

def mapEsK : List (Int × Value) → Nat → List MapEntry
  | [], _ => []
  | p :: l, i => { key := .int .i64 p.1, val := p.2, born := i } :: mapEsK l (i + 1)
theorem mapEsK_append : ∀ (l : List (Int × Value)) (k : Int) (v : Value) (i : Nat), mapEsK (l ++ [(k, v)]) i = mapEsK l i ++ [{ key := .int .i64 k, val := v, born := i + l.length }]
  | [], k, v, i => rfl
  | p :: l, k, v, i => by
    show _ :: mapEsK (l ++ [(k, v)]) (i + 1) = _
    rw [mapEsK_append l k v (i + 1)]
    simp [mapEsK]; omega
/-- What a map holds, in the order in which it was put in. -/
def IsMapK (w : World) (m : Nat) (l : List (Int × Value)) : Prop := w.heap[m]? = some (.map (mapEsK l 0).toArray l.length)
theorem IsMapK.lt {w : World} {m : Nat} {l : List (Int × Value)} (h : IsMapK w m l) : m < w.heap.size := (Array.getElem?_eq_some_iff.1 h).1
theorem IsMapK.later {w w' : World} {m : Nat} {l : List (Int × Value)} (h : IsMapK w m l) (hb : Below w.heap.size w w') : IsMapK w' m l := (hb.block m h.lt).trans h
/-- The world with a map's block turned. -/
def putMapK (w : World) (m : Nat) (l : List (Int × Value)) : World := { w with heap := w.heap.setIfInBounds m (.map (mapEsK l 0).toArray l.length) }
theorem putMapK_is {w : World} {m : Nat} (h : m < w.heap.size) (l' : List (Int × Value)) : IsMapK (putMapK w m l') m l' := by
  unfold IsMapK putMapK; simp [h]
theorem putMapK_other {w : World} {m b : Nat} (hb : b ≠ m) (l : List (Int × Value)) : (putMapK w m l).heap[b]? = w.heap[b]? := by
  unfold putMapK; simp [Ne.symm hb]
theorem putMapK_size (w : World) (m : Nat) (l : List (Int × Value)) : (putMapK w m l).heap.size = w.heap.size := by simp [putMapK]
theorem putMapK_below {B : Nat} {a w : World} {m : Nat} (h : Below B a w) (hm : B ≤ m) (l : List (Int × Value)) : Below B a (putMapK w m l) :=
  h.trans ⟨rfl, rfl, rfl, by rw [putMapK_size]; exact Nat.le_refl _, fun i hi => putMapK_other (by omega) l⟩
/-- What a look-up finds. -/
def findEK : List (Int × Value) → Int → Nat → Option (Nat × Value)
  | [], _, _ => none
  | p :: l, k, i => if p.1 = k then some (i, p.2) else findEK l k (i + 1)
theorem findNow_mapEsK (k : Int) : ∀ (l : List (Int × Value)) (i : Nat), Instr.findNow (.int .i64) (.int .i64 k) (mapEsK l i) i = some (findEK l k i)
  | [], i => rfl
  | p :: l, i => by
    unfold mapEsK Instr.findNow findEK
    simp only [Instr.sameNow, if_true]
    by_cases h : p.1 = k
    · have : (k == p.1) = true := by rw [beq_iff_eq]; exact h.symm
      rw [this, if_pos h]
    · have : (k == p.1) = false := by rw [beq_eq_false_iff_ne]; exact fun e => h e.symm
      rw [this, if_neg h]
      exact findNow_mapEsK k l (i + 1)
theorem keysK_free {e : Bool} {k : Int} (w : World) : (Instr.checkKey e 10000 3 (.int .i64 k)).run Tryz.prog w = .ok () w := by
  rw [show (10000 : Nat) = 9999 + 1 from rfl]
  unfold Instr.checkKey
  simp [run_underlying Tryz.underlying3, Result.andThen]
theorem run_lookup_int (w : World) (m : Nat) (l : List (Int × Value)) (k : Int) (hm : IsMapK w m l) :
    (Instr.lookup 88 (.map (some m)) (.int .i64 k) true).run Tryz.prog w = .ok (match findEK l k 0 with | some (_, v) => .tuple #[v, .bool true] | none => .tuple #[.agg #[.int .i64 0, .nilFunc], .bool false]) w := by
  unfold IsMapK at hm
  have hf := findNow_mapEsK k l 0
  have hz := Tryz.zeroValue97
  simp only [Instr.lookup, Sem.run_bind, run_underlying Tryz.underlying88, Result.andThen, getObj, Sem.run, hm, keysK_free, Instr.findKey, run_underlying Tryz.underlying3, hf]
  rw [show (Sem.run Tryz.prog (pure (mapEsK l 0).toArray) w) = .ok (mapEsK l 0).toArray w from rfl]
  simp only [hf]
  cases h : findEK l k 0 with
  | none => simp [Sem.run_bind, hz, Result.andThen]
  | some p => obtain ⟨i, v⟩ := p; rfl
theorem run_update_int (w : World) (m : Nat) (l : List (Int × Value)) (k : Int) (v : Value) (hm : IsMapK w m l) (hk : findEK l k 0 = none) :
    (Instr.mapUpdate 88 (.map (some m)) (.int .i64 k) v).run Tryz.prog w = .ok () (putMapK w m (l ++ [(k, v)])) := by
  have hlt := hm.lt
  unfold IsMapK at hm
  have hf := findNow_mapEsK k l 0
  rw [hk] at hf
  simp only [Instr.mapUpdate, Sem.run_bind, run_underlying Tryz.underlying88, Result.andThen, getObj, Sem.run, hm, keysK_free, Instr.findKey, run_underlying Tryz.underlying3, hf]
  simp only [setObj, Sem.run, hm]
  unfold putMapK
  rw [mapEsK_append]
  simp [Sem.run, hm]
end Go.Proofs.YtcgjmnhmhiddkaaGreatDoor
