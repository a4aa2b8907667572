/- Sizes of nodes: the loop, walked. -/
import Derived.Test.YtnjkljjeldnblaaM19
import Derived.Test.YtnjkljjeldnblaaM04
namespace Go.Proofs.Ytnjkljjeldnblaa
open Go Go.RowKit
set_option linter.unusedVariables false
set_option linter.unusedSimpArgs false

theorem wpList_make_int {w : World} {ops : Array Oper} {rest : List Oper} {o : Oper} {a : Act} {Q : Exit → Act → World → Prop} (hgd : o.guard = none) (l c : Operand) (hop : o.op = Op.makeSlice 45 l c)
    (C : Int) (n : Nat) (hl : a.eval l = .int .i64 0) (hc : a.eval c = .int .i64 C) (hC : C = (n : Int)) (hn : n ≤ 1073741824)
    (hK : ∀ w', OwnI w' w.heap.size (.slice (some ⟨w.heap.size, 0, none⟩) 0 n) [] → Below w.heap.size w w' → wpList Try.prog ops Q rest (a.put o.dst (.slice (some ⟨w.heap.size, 0, none⟩) 0 n)) w') : wpList Try.prog ops Q (o :: rest) a w := by
  obtain ⟨ib, hib, hz0, hz1, hz2⟩ := info_parts infoI
  exact wpList_make_own w hgd l c 45 hop w.heap.size 3 ib _ 1 Try.underlying45 hib hz0 hz1 .i64 .i64 C n hl hc hC (by rw [hz2]; omega) (by unfold maxLen; omega) (Nat.le_refl _)
    fun w' h1 h2 => hK w' h1 ⟨h2.os, h2.tape, h2.output, h2.size, fun k hk => h2.block k hk (by simp)⟩
structure NdS (w0 : World) (A : Option Addr) (l : List Nd) (S : List Nat) (v : Value) (w : World) : Prop where
  bel : Below w0.heap.size w0 w
  own : OwnI w (w0.heap.size + 1) v (natI S)
  row : NRow w A l
  low : w0.heap.size + 1 ≤ w.heap.size
theorem NdS.later {w0 w w' : World} {A : Option Addr} {l : List Nd} {S : List Nat} {v : Value} (h : NdS w0 A l S v w) (hb : Below w.heap.size w w') : NdS w0 A l S v w' :=
  ⟨h.bel.trans (hb.mono h.bel.size), h.own.later hb, h.row.later hb, Nat.le_trans h.low hb.size⟩
theorem OwnI.lower {w : World} {base base' : Nat} {v : Value} {l : List Int} (h : OwnI w base v l) (hb : base' ≤ base) : OwnI w base' v l := by
  obtain ⟨h0, ⟨hv, hn⟩ | ⟨g, cap, cur, hv, hg, hr⟩⟩ := h
  · exact ⟨h0, .inl ⟨hv, hn⟩⟩
  · exact ⟨h0, .inr ⟨g, cap, cur, hv, Nat.le_trans hb hg, hr⟩⟩
def NdL (w0 : World) (A : Option Addr) (l : List Nd) (i : Nat) (v x : Value) (w : World) : Prop := ∃ k : Nat, k ≤ i + 1 ∧ x = .int .i64 (k : Int) ∧ NdS w0 A l (szs l k) v w
/-- What a node of a description must be, for its size to be told. -/
structure NdOk (n : Nd) : Prop where
  kind : 1 ≤ n.kind ∧ n.kind ≤ 9
  hi : -9223372036854775808 ≤ n.hi ∧ n.hi ≤ 9223372036854775807
  text : n.text.length ≤ 281474976710656
theorem natI_snoc (S : List Nat) (x : Nat) : natI S ++ [(x : Int)] = natI (S ++ [x]) := by unfold natI; simp
set_option maxHeartbeats 16000000 in
set_option maxRecDepth 100000 in
theorem snode_any (l : List Nd) (A : Option Addr) (c i : Nat) (hi : i < l.length) (hc : l.length ≤ c) (hlen : l.length ≤ 536870912) (hok : ∀ n ∈ l, NdOk n) (w : World) (hrow : NRow w A l) :
    Calls Try.prog 12 #[.agg #[.slice A l.length c], .int .i64 (i : Int)] w (Ans w (.int .i64 ((szN l i : Nat) : Int))) := by
  have HB := (Below.refl w.heap.size w).alloc (Nat.le_refl _) (.cells #[.slice A l.length c] 24)
  have HS0 : Hid (FstS w A l c (w.alloc (.cells #[.slice A l.length c] 24))) := ⟨HB, hrow.later HB, Blk.new _ _ _⟩
  have HZ0 : w.heap.size + 1 ≤ (w.alloc (.cells #[.slice A l.length c] 24)).heap.size := by simp
  have HSZ := Lib.hid HZ0
  have hA : ∀ b o, A = some ⟨b, o, none⟩ → b < w.heap.size := fun b o e => by
    obtain ⟨b', o', h1, h2, _⟩ := hrow 0 (by omega)
    rw [e] at h1; cases h1; exact h2
  have HA := Lib.hid hA
  obtain ⟨ba, oa, rfl, -, -⟩ := hrow i hi
  have HOK := Lib.hid hok
  clear hrow HB hok hA HZ0
  obtain ⟨v, hv⟩ : ∃ v, szN l i = v := ⟨_, rfl⟩
  rw [hv]
  have HV := Lib.hid hv
  clear hv
  have hlt0 : ¬ (i : Int) < 0 := by omega
  have hge : ¬ (i : Int) ≥ (l.length : Int) := by omega
  have hiz : (i : Int) < (l.length : Int) := by omega
  have hic : (i : Int) + 1 ≤ (c : Int) := by omega
  have hi1 : (i : Int) + 1 ≤ 536870912 := by omega
  go_enter Try.func12, Try.ntmps12
  go_upto_region 1 with (fail)
  generalize w.alloc (.cells #[.slice (some ⟨ba, oa, none⟩) l.length c] 24) = w1 at *
  have e0 := HS0.out.box.cell 0
  simp at e0
  go_upto_region 3 with (fail)
  clear e0
  go_upto_region 4 with (refine wpList_make_int rfl _ _ rfl _ (i + 1) rfl rfl (by omega) (by omega) ?_; intro w2 ho2 hb2; have HO2 := Lib.hid ho2; have HS2 := Lib.hid (HS0.out.later hb2); have HZ2 := Lib.hid (Nat.le_trans HSZ.out hb2.size); clear ho2 hb2)
  have HN0 : Hid (NdS w (some ⟨ba, oa, none⟩) l [] (.slice (some ⟨w1.heap.size, 0, none⟩) 0 (i + 1)) w2) := ⟨HS2.out.bel, HO2.out.lower HSZ.out, HS2.out.row, HZ2.out⟩
  have e0 := HS2.out.box.cell 0
  simp at e0
  clear HO2
  go_wp2
  clear e0 HS2 HS0
  go_loopw [5, 26] (NdL w (some ⟨ba, oa, none⟩) l i) (fun _ x _ => i + 1 - (intOf x).toNat)
  case atStart => exact ⟨0, Nat.zero_le _, rfl, HN0.out⟩
  case round =>
    obtain ⟨k, hk, rfl, hs⟩ := hrel
    have HS := Lib.hid hs
    by_cases hlt : k < i + 1
    · have hltz : (k : Int) < (i : Int) + 1 := by omega
      have hkl : k < l.length := by omega
      have g : At10 wr ba (oa + k * 10) (l.getD k nd0) := hs.row.at hkl rfl
      have HM := Lib.hid (HOK.out (l.getD k nd0) (by rw [List.getD_eq_getElem?_getD, List.getElem?_eq_getElem hkl]; exact List.getElem_mem _))
      have HN : Hid (szs l (k + 1) = szs l k ++ [wholeN (l.getD k nd0) (szs l k)]) := rfl
      have HL := Lib.hid (szs_le l k)
      have hkS : (szs l k).length = k := szs_length l k
      generalize szs l k = S at *
      generalize l.getD k nd0 = n at *
      clear hs
      obtain ⟨a7, c7, hv7, hr7⟩ := HS.out.own.row
      rw [natI_length, hkS] at hv7
      subst hv7
      have CW : Hid (∀ w', IRow w' a7 (natI S) → Calls Try.prog 22 #[.agg (ndC n), .slice a7 k c7] w' (Ans w' (.int .i64 ((wholeN n S : Nat) : Int)))) := fun w' h => by
        have := whole_any n HM.out.kind HM.out.hi HM.out.text S HL.out a7 c7 w' h
        rwa [hkS] at this
      have hS1 : (natI S).length < 1073741824 := by rw [natI_length, hkS]; omega
      have HS1 := Lib.hid hS1
      clear hkS hS1
      generalize wholeN n S = x at *
      have HR7 := Lib.hid hr7
      clear hr7
      obtain ⟨kk, na, nb, nlo, nhi, ncls, ntext⟩ := n
      unfold At10 at g
      simp only at g
      obtain ⟨g0, g1, g2, g3, g4, g5, g6, g7, g8, g9⟩ := g
      unfold ndC at CW
      simp only at CW
      have HS2 := Lib.hid (HS.out.later ((Below.refl _ _).alloc (Nat.le_refl _) (.cells #[.int .i64 kk, .int .i64 na, .int .i64 nb, .int .i64 nlo, .int .i64 nhi, .int .u64 (wd ncls 0), .int .u64 (wd ncls 1), .int .u64 (wd ncls 2), .int .u64 (wd ncls 3), .string (bs ntext)] 36)))
      have HR2 := Lib.hid (HR7.out.later ((Below.refl _ _).alloc (Nat.le_refl _) (.cells #[.int .i64 kk, .int .i64 na, .int .i64 nb, .int .i64 nlo, .int .i64 nhi, .int .u64 (wd ncls 0), .int .u64 (wd ncls 1), .int .u64 (wd ncls 2), .int .u64 (wd ncls 3), .string (bs ntext)] 36)))
      have HB2 := Lib.hid (Blk.new wr #[.int .i64 kk, .int .i64 na, .int .i64 nb, .int .i64 nlo, .int .i64 nhi, .int .u64 (wd ncls 0), .int .u64 (wd ncls 1), .int .u64 (wd ncls 2), .int .u64 (wd ncls 3), .string (bs ntext)] 36)
      go_upto_region 7 with (fail)
      clear g0 g1 g2 g3 g4 g5 g6 g7 g8 g9
      generalize wr.alloc (.cells #[.int .i64 kk, .int .i64 na, .int .i64 nb, .int .i64 nlo, .int .i64 nhi, .int .u64 (wd ncls 0), .int .u64 (wd ncls 1), .int .u64 (wd ncls 2), .int .u64 (wd ncls 3), .string (bs ntext)] 36) = w3 at *
      generalize wr.heap.size = bx at *
      have gg := HB2.out
      obtain ⟨g0, g1, g2, g3, g4, g5, g6, g7, g8, g9⟩ := ten_cells gg
      clear gg
      go_wp2_with fail
      refine (CW.out _ HR2.out).mono ?_; rintro e w4 ⟨rfl, hb4⟩
      have HS4 := Lib.hid (HS2.out.later (hb4.trans ((Below.refl _ _).alloc hb4.size (.cells #[.int .i64 (x : Int)] 3))))
      have HX4 := Lib.hid (Blk.new w4 #[.int .i64 (x : Int)] 3)
      clear hb4 g0 g1 g2 g3 g4 g5 g6 g7 g8 g9
      have hlow4 := HS4.out.low
      go_wp2_with (at_builtin; refine wpList_append_int rfl _ _ rfl (w.heap.size + 1) _ (natI S) rfl HS4.out.own w4.heap.size (x : Int) rfl HX4.out HS1.out hlow4 ?_; intro v' w6 h1 h2 h3; rw [natI_snoc, ← HN.out] at h1; have HO6 := Lib.hid h1; have HB6 := Lib.hid ((Below.refl (w.heap.size + 1) _).grown h2 hlow4 (fun k hk => (World.ownsRow.lt HS4.out.own k hk).1)); clear h1 h2 h3)
      have HS6 : Hid (NdS w (some ⟨ba, oa, none⟩) l (szs l (k + 1)) v' w6) := ⟨HS4.out.bel.trans (HB6.out.mono (Nat.le_succ _)), HO6.out, HS4.out.row.below (fun b o e => Nat.lt_succ_of_lt (HA.out b o e)) HB6.out HB6.out.size, Nat.le_trans hlow4 HB6.out.size⟩
      go_roundw
      case rel => exact ⟨k + 1, by omega, by go_num, HS6.out⟩
      case measure => simp [intOf]; omega
    · obtain rfl : k = i + 1 := by omega
      have hlast : ¬ ((i + 1 : Nat) : Int) < (i : Int) + 1 := by omega
      have hlen1 : (natI (szs l (i + 1))).length = i + 1 := by rw [natI_length, szs_length]
      have hg1 : (natI (szs l (i + 1))).getD i 0 = ((v : Nat) : Int) := by rw [natI_get (by rw [szs_length]; omega), szs_get l (i + 1) i (by omega), HV.out]
      obtain ⟨a7, c7, rfl, hr7⟩ := HS.out.own.row
      obtain ⟨b7, o7, rfl, -, hc7⟩ := hr7 i (by omega)
      rw [hg1] at hc7
      rw [hlen1] at *
      clear hs hr7
      go_wp2
      go_ret
      exact ⟨rfl, HS.out.bel⟩
set_option maxHeartbeats 16000000 in
set_option maxRecDepth 100000 in
theorem sof_any (l : List Nd) (A : Option Addr) (c : Nat) (hpos : 0 < l.length) (hc : l.length ≤ c) (hlen : l.length ≤ 536870912) (hok : ∀ n ∈ l, NdOk n) (w : World) (hrow : NRow w A l) :
    Calls Try.prog 10 #[.agg #[.slice A l.length c]] w (Ans w (.int .i64 ((szD l : Nat) : Int))) := by
  have HB := (Below.refl w.heap.size w).alloc (Nat.le_refl _) (.cells #[.slice A l.length c] 24)
  have HS0 : Hid (FstS w A l c (w.alloc (.cells #[.slice A l.length c] 24))) := ⟨HB, hrow.later HB, Blk.new _ _ _⟩
  have CN : Hid (∀ w', NRow w' A l → Calls Try.prog 12 #[.agg #[.slice A l.length c], .int .i64 ((l.length : Int) - 1)] w' (Ans w' (.int .i64 ((szN l (l.length - 1) : Nat) : Int)))) := fun w' h => by
    have := snode_any l A c (l.length - 1) (by omega) hc hlen hok w' h
    rwa [show ((l.length - 1 : Nat) : Int) = (l.length : Int) - 1 by omega] at this
  obtain ⟨v, hv⟩ : ∃ v, szD l = v := ⟨_, rfl⟩
  rw [hv]
  have HV : Hid (min (szN l (l.length - 1) + 1) szM = v) := hv
  have hx := szN_le l (l.length - 1)
  rw [szM_eq] at hx
  generalize szN l (l.length - 1) = x at *
  have hmin : -9223372036854775808 ≤ (l.length : Int) - 1 := by omega
  clear hrow HB hok hv
  go_enter Try.func10, Try.ntmps10
  go_upto_region 1 with (fail)
  generalize w.alloc (.cells #[.slice A l.length c] 24) = w1 at *
  have e0 := HS0.out.box.cell 0
  simp at e0
  go_wp2_with fail
  refine (CN.out _ HS0.out.row).mono ?_; rintro e w2 ⟨rfl, hb2⟩
  have HX := Lib.hid (Blk.new w2 #[.int .i64 (x : Int), .int .i64 ((1 : Nat) : Int)] 3)
  have HB := Lib.hid (HS0.out.bel.trans ((hb2.trans ((Below.refl _ _).alloc hb2.size (.cells #[.int .i64 (x : Int), .int .i64 ((1 : Nat) : Int)] 3))).mono HS0.out.bel.size))
  clear hb2 e0
  go_wp2_with fail
  refine (sum2 (by omega) (by omega) HX.out).mono ?_
  rintro e w3 ⟨rfl, rfl⟩
  go_wp2
  go_ret
  exact ⟨by rw [HV.out]; rfl, HB.out⟩
end Go.Proofs.Ytnjkljjeldnblaa
/- Bounds of pairs: walked. -/
namespace Go.Proofs.Ytnjkljjeldnblaa
open Go Go.RowKit
set_option linter.unusedVariables false
set_option linter.unusedSimpArgs false

def bdN (n : Nat) : Nat := 4 ^ (min n 31)
theorem bdN_le (n : Nat) : 1 ≤ bdN n ∧ bdN n ≤ 4611686018427387904 := by
  unfold bdN
  refine ⟨Nat.one_le_pow _ _ (by decide), ?_⟩
  have : (4 : Nat) ^ min n 31 ≤ 4 ^ 31 := Nat.pow_le_pow_right (by decide) (Nat.min_le_right _ _)
  exact Nat.le_trans this (by decide)
theorem bdN_succ {n : Nat} (h : n ≤ 30) : bdN (n + 1) = 4 * bdN n := by
  unfold bdN
  rw [Nat.min_eq_left (by omega), Nat.min_eq_left (by omega), Nat.pow_succ, Nat.mul_comm]
theorem bdN_mono (n : Nat) : bdN n ≤ bdN (n + 1) := by
  unfold bdN
  exact Nat.pow_le_pow_right (by decide) (by omega)
set_option maxHeartbeats 4000000 in
set_option maxRecDepth 100000 in
theorem bound_any (n : Nat) (hn : n ≤ 4611686018427387904) (w : World) : Calls Try.prog 14 #[.int .i64 (n : Int)] w (Pure w (.int .i64 ((bdN n : Nat) : Int))) := by
  by_cases h : n ≤ 31
  · have hnz : ¬ (n : Int) < 0 := by omega
    have hmin : min (n : Int) 31 = n := by omega
    have hb := (bdN_le n).2
    have HW : Hid (wrap64 (2 ^ (2 * n)) = ((bdN n : Nat) : Int)) := by
      have e : (2 : Int) ^ (2 * n) = ((bdN n : Nat) : Int) := by
        unfold bdN; rw [Nat.min_eq_left h, Int.pow_mul]; simp
      unfold Hid; rw [e]; unfold wrap64; omega
    generalize bdN n = q at *
    go_enter Try.func14, Try.ntmps14
    go_wp2
    rw [HW.out]
    go_ret
    exact ⟨rfl, rfl⟩
  · have e : bdN n = 4611686018427387904 := by unfold bdN; rw [Nat.min_eq_right (by omega)]
    rw [e]
    have hnz : ¬ (n : Int) < 0 := by omega
    have hmin : min (n : Int) 31 = 31 := by omega
    go_enter Try.func14, Try.ntmps14
    go_wp2
    (try rw [show wrap64 4611686018427387904 = 4611686018427387904 by unfold wrap64; omega])
    go_ret
    exact ⟨rfl, rfl⟩
def BdL (w0 : World) (n : Nat) (b i : Value) (w : World) : Prop := ∃ k : Nat, k ≤ n ∧ k ≤ 31 ∧ i = .int .i64 (k : Int) ∧ b = .int .i64 ((bdN k : Nat) : Int) ∧ w = w0
set_option maxHeartbeats 4000000 in
set_option maxRecDepth 100000 in
theorem rbound_any (n : Nat) (hn : n ≤ 4611686018427387904) (w : World) : Calls Try.prog 15 #[.int .i64 (n : Int)] w (Pure w (.int .i64 ((bdN n : Nat) : Int))) := by
  obtain ⟨v, hv⟩ : ∃ v, bdN n = v := ⟨_, rfl⟩
  rw [hv]
  have HV := Lib.hid hv
  clear hv
  go_enter Try.func15, Try.ntmps15
  go_wp2
  go_loopw [3, 4] (BdL w n) (fun _ i _ => 40 - (intOf i).toNat)
  case atStart => exact ⟨0, Nat.zero_le _, by decide, rfl, rfl, rfl⟩
  case round =>
    obtain ⟨k, hk, hk2, rfl, rfl, rfl⟩ := hrel
    by_cases hlt : k < n
    · have hltz : (k : Int) < (n : Int) := by omega
      by_cases h31 : k < 31
      · have h31z : (k : Int) < 31 := by omega
        have HB := Lib.hid (bdN_succ (n := k) (by omega))
        have hb := (bdN_le (k + 1)).2
        rw [HB.out] at hb
        generalize bdN k = q at *
        go_wp2
        go_roundw
        case rel => exact ⟨k + 1, by omega, by omega, by go_num, by rw [HB.out]; go_num, rfl⟩
        case measure => simp [intOf] <;> omega
      · obtain rfl : k = 31 := by omega
        have e : bdN 31 = v := by rw [← HV.out]; unfold bdN; rw [Nat.min_eq_right hk]; rfl
        rw [e]
        go_wp2
        go_ret
        exact ⟨rfl, rfl⟩
    · obtain rfl : k = n := by omega
      have hlast : ¬ (k : Int) < (k : Int) := by omega
      have hv := HV.out
      rw [hv]
      go_wp2
      go_ret
      exact ⟨rfl, rfl⟩
end Go.Proofs.Ytnjkljjeldnblaa
/- The document's sizes: walked. -/
namespace Go.Proofs.Ytnjkljjeldnblaa
open Go Go.RowKit
set_option linter.unusedVariables false
set_option linter.unusedSimpArgs false

structure RzS (w0 : World) (A : Option Addr) (l : List Nd) (c : Nat) (n : Nd) (w : World) : Prop where
  bel : Below w0.heap.size w0 w
  row : NRow w A l
  box : Blk w w0.heap.size #[.slice A l.length c] 24
  who : Blk w (w0.heap.size + 1) (ndC n) 36
theorem RzS.later {w0 w w' : World} {A : Option Addr} {l : List Nd} {c : Nat} {n : Nd} (h : RzS w0 A l c n w) (hb : Below w.heap.size w w') : RzS w0 A l c n w' := ⟨h.bel.trans (hb.mono h.bel.size), h.row.later hb, h.box.later hb, h.who.later hb⟩
theorem RzS.new (w : World) (A : Option Addr) (l : List Nd) (c : Nat) (n : Nd) (h : NRow w A l) : RzS w A l c n ((w.alloc (.cells #[.slice A l.length c] 24)).alloc (.cells (ndC n) 36)) := by
  have HB := ((Below.refl w.heap.size w).alloc (Nat.le_refl _) (.cells #[.slice A l.length c] 24)).alloc (by simp) (.cells (ndC n) 36)
  exact ⟨HB, h.later HB, (Blk.new w _ _).alloc _, Blk.new' (by simp) _ _⟩
theorem capV (x : Nat) : min (x : Int) 1099511627776 = ((min x szM : Nat) : Int) := by rw [szM_eq]; omega
set_option maxHeartbeats 16000000 in
set_option maxRecDepth 100000 in
theorem rsnode_any (l : List Nd) (A : Option Addr) (c : Nat) (hc : l.length ≤ c) (hlen : l.length ≤ 536870912) (htx : Txt l) : ∀ (i : Nat), i < l.length → okTo l i → ∀ (w : World), NRow w A l →
    Calls Try.prog 13 #[.agg #[.slice A l.length c], .int .i64 (i : Int)] w (Ans w (.int .i64 ((szN l i : Nat) : Int))) := by
  intro i
  induction i using Nat.strongRecOn with
  | ind i ih =>
    intro hi hok w hrow
    have IH := Lib.hid ih
    have HOK := Lib.hid hok
    obtain ⟨ba, oa, rfl, hbl, -⟩ := hrow i hi
    have g : At10 w ba (oa + i * 10) (l.getD i nd0) := hrow.at hi rfl
    have hcs := (hok i (Nat.le_refl i)).cs rfl
    have hk9 := (hok i (Nat.le_refl i)).kind9
    have htn := txt_at htx i
    have HS2 := Lib.hid (RzS.new w (some ⟨ba, oa, none⟩) l c (l.getD i nd0) hrow)
    have HR : Hid (NRow (w.alloc (.cells #[.slice (some ⟨ba, oa, none⟩) l.length c] 24)) (some ⟨ba, oa, none⟩) l) := hrow.later ((Below.refl _ _).alloc (Nat.le_refl _) _)
    have hiz : (i : Int) < (l.length : Int) := by omega
    have hi0 : True := trivial
    obtain ⟨v, hv⟩ : ∃ v, szN l i = v := ⟨_, rfl⟩
    rw [hv]
    have HV := Lib.hid hv
    have hlf : leafK (atN l i).kind → v = leafS (atN l i) := fun h => by rw [← hv]; exact szN_leaf h
    have hleaf := Lib.hid hlf
    clear ih hok hrow hv hlf hi0
    have hn : atN l i = l.getD i nd0 := rfl
    rw [hn] at hcs hk9 htn hleaf
    generalize l.getD i nd0 = n at *
    obtain ⟨kk, na, nb, nlo, nhi, ncls, ntext⟩ := n
    unfold At10 at g
    simp only at g hk9 htn
    obtain ⟨g0, g1, g2, g3, g4, g5, g6, g7, g8, g9⟩ := g
    have hl0 : ∀ o, (w.alloc (.cells #[.slice (some ⟨ba, oa, none⟩) l.length c] 24)).cell? ⟨ba, o, none⟩ = w.cell? ⟨ba, o, none⟩ := fun o => ((Below.refl w.heap.size w).alloc (Nat.le_refl _) (.cells #[.slice (some ⟨ba, oa, none⟩) l.length c] 24)).cell (p := ⟨ba, o, none⟩) hbl
    have HBX : Hid (Blk (w.alloc (.cells #[.slice (some ⟨ba, oa, none⟩) l.length c] 24)) w.heap.size #[.slice (some ⟨ba, oa, none⟩) l.length c] 24) := Blk.new _ _ _
    rw [← hl0] at g0 g1 g2 g3 g4 g5 g6 g7 g8 g9
    clear hl0
    go_enter Try.func13, Try.ntmps13
    go_upto_region 1 with (fail)
    unfold ndC at HS2
    simp only at HS2
    have hsz1 : (w.alloc (.cells #[.slice (some ⟨ba, oa, none⟩) l.length c] 24)).heap.size = w.heap.size + 1 := by simp
    generalize w.alloc (.cells #[.slice (some ⟨ba, oa, none⟩) l.length c] 24) = w1 at *
    have e0 := HBX.out.cell 0
    simp at e0
    go_upto_region 2 with (fail)
    rw [hsz1] at *
    clear g0 g1 g2 g3 g4 g5 g6 g7 g8 g9 e0 HBX HR
    generalize w1.alloc (.cells #[.int .i64 kk, .int .i64 na, .int .i64 nb, .int .i64 nlo, .int .i64 nhi, .int .u64 (wd ncls 0), .int .u64 (wd ncls 1), .int .u64 (wd ncls 2), .int .u64 (wd ncls 3), .string (bs ntext)] 36) = w2 at *
    clear hsz1
    have e0 := HS2.out.box.cell 0
    simp at e0
    obtain ⟨f0, f1, f2, f3, f4, f5, f6, f7, f8, f9⟩ := ten_cells HS2.out.who
    cases hcs with
    | leaf hk hf =>
      have hl := hleaf.out hk
      unfold leafK at hk
      simp only at hk
      rcases hk with rfl | rfl | rfl
      · have e : v = 0 := hl
        have HE := Lib.hid e
        clear hl hleaf HV e
        go_wp2
        go_ret
        exact ⟨by rw [HE.out]; rfl, HS2.out.bel⟩
      · have e : v = 1 := hl
        have HE := Lib.hid e
        clear hl hleaf HV e
        go_wp2
        go_ret
        exact ⟨by rw [HE.out]; rfl, HS2.out.bel⟩
      · have e : v = min ntext.length szM := hl
        rw [← bs_size] at e
        have HE := Lib.hid e
        clear e hl
        go_wp2_with fail
        refine (cap_any _ _).mono ?_; rintro e w5 ⟨rfl, rfl⟩
        go_wp2
        go_ret
        exact ⟨by rw [HE.out, ← capV]; rfl, HS2.out.bel⟩
    | one hk hi0 ha hb h7 hr hc hf =>
      simp only at hk ha hb h7 hr hc
      clear hf hb h7 hc
      have hkk : kk = 6 ∨ kk = 7 ∨ kk = 8 ∨ kk = 9 := by omega
      rcases hkk with rfl | rfl | rfl | rfl
      ·
        obtain rfl : na = (i : Int) - 1 := ha
        have CI : Hid (∀ w', NRow w' (some ⟨ba, oa, none⟩) l → Calls Try.prog 13 #[.agg #[.slice (some ⟨ba, oa, none⟩) l.length c], .int .i64 ((i : Int) - 1)] w' (Ans w' (.int .i64 ((szN l (i - 1) : Nat) : Int)))) := fun w' h => by
          have := IH.out (i - 1) (by omega) (by omega) (HOK.out.down (by omega)) w' h
          rwa [show ((i - 1 : Nat) : Int) = (i : Int) - 1 by omega] at this
        have hx := szN_le l (i - 1)
        have hsz := szN_one (l := l) hi0 (by rw [hn]; exact hk) (by rw [hn])
        rw [hn, HV.out] at hsz
        rw [szM_eq] at hx
        simp only at hsz
        generalize szN l (i - 1) = x at *
        clear hk hr
        have HSZ := Lib.hid hsz
        clear hsz
        go_wp2_with fail
        refine (CI.out _ HS2.out.row).mono ?_; rintro e w3 ⟨rfl, hb3⟩
        have HS3 := Lib.hid (HS2.out.later hb3)
        clear hb3 e0 f0 f1 f2 f3 f4 f5 f6 f7 f8 f9
        obtain ⟨f0, f1, f2, f3, f4, f5, f6, f7, f8, f9⟩ := ten_cells HS3.out.who
        go_wp2
        go_ret
        exact ⟨by rw [HSZ.out]; rfl, HS3.out.bel⟩
      ·
        have hr7 := hr rfl
        obtain rfl : na = (i : Int) - 1 := ha
        have CI : Hid (∀ w', NRow w' (some ⟨ba, oa, none⟩) l → Calls Try.prog 13 #[.agg #[.slice (some ⟨ba, oa, none⟩) l.length c], .int .i64 ((i : Int) - 1)] w' (Ans w' (.int .i64 ((szN l (i - 1) : Nat) : Int)))) := fun w' h => by
          have := IH.out (i - 1) (by omega) (by omega) (HOK.out.down (by omega)) w' h
          rwa [show ((i - 1 : Nat) : Int) = (i : Int) - 1 by omega] at this
        have hx := szN_le l (i - 1)
        have hsz := szN_one (l := l) hi0 (by rw [hn]; exact hk) (by rw [hn])
        rw [hn, HV.out] at hsz
        rw [szM_eq] at hx
        simp only at hsz
        generalize szN l (i - 1) = x at *
        clear hk hr
        have HSZ := Lib.hid hsz
        clear hsz
        go_wp2_with fail
        refine (CI.out _ HS2.out.row).mono ?_; rintro e w3 ⟨rfl, hb3⟩
        have HS3 := Lib.hid (HS2.out.later hb3)
        clear hb3 e0 f0 f1 f2 f3 f4 f5 f6 f7 f8 f9
        obtain ⟨f0, f1, f2, f3, f4, f5, f6, f7, f8, f9⟩ := ten_cells HS3.out.who
        obtain ⟨h, rfl⟩ : ∃ h : Nat, nhi = (h : Int) := ⟨nhi.toNat, by omega⟩
        have hxm : x * h ≤ 1099511627776 * 255 := Nat.mul_le_mul hx (by omega)
        have HM : Hid (wrap64 ((x : Int) * (h : Int)) = ((x * h : Nat) : Int)) := by unfold Hid; rw [show (x : Int) * (h : Int) = ((x * h : Nat) : Int) by simp]; unfold wrap64; omega
        have HV7 : Hid (min ((x : Int) * (h : Int)) 1099511627776 = ((oneS 7 (h : Int) x : Nat) : Int)) := by
          unfold Hid oneS
          rw [if_neg (by decide), if_pos rfl, ← capV, Int.toNat_natCast, Nat.mul_comm]; simp
        have HXM := Lib.hid hxm
        clear hxm
        go_wp2_with fail
        rw [HM.out]
        refine (cap_any _ _).mono ?_; rintro e w5 ⟨rfl, rfl⟩
        go_wp2
        go_ret
        exact ⟨by rw [HSZ.out, ← HV7.out]; rfl, HS3.out.bel⟩
      ·
        obtain rfl : na = (i : Int) - 1 := ha
        have CI : Hid (∀ w', NRow w' (some ⟨ba, oa, none⟩) l → Calls Try.prog 13 #[.agg #[.slice (some ⟨ba, oa, none⟩) l.length c], .int .i64 ((i : Int) - 1)] w' (Ans w' (.int .i64 ((szN l (i - 1) : Nat) : Int)))) := fun w' h => by
          have := IH.out (i - 1) (by omega) (by omega) (HOK.out.down (by omega)) w' h
          rwa [show ((i - 1 : Nat) : Int) = (i : Int) - 1 by omega] at this
        have hx := szN_le l (i - 1)
        have hsz := szN_one (l := l) hi0 (by rw [hn]; exact hk) (by rw [hn])
        rw [hn, HV.out] at hsz
        rw [szM_eq] at hx
        simp only at hsz
        generalize szN l (i - 1) = x at *
        clear hk hr
        have HSZ := Lib.hid hsz
        clear hsz
        go_wp2_with fail
        refine (CI.out _ HS2.out.row).mono ?_; rintro e w3 ⟨rfl, hb3⟩
        have HS3 := Lib.hid (HS2.out.later hb3)
        clear hb3 e0 f0 f1 f2 f3 f4 f5 f6 f7 f8 f9
        obtain ⟨f0, f1, f2, f3, f4, f5, f6, f7, f8, f9⟩ := ten_cells HS3.out.who
        go_wp2_with fail
        refine (cap_any _ _).mono ?_; rintro e w5 ⟨rfl, rfl⟩
        have HZ : Hid (oneS 8 nhi x = min (256 * min (x + 1) szM) szM) := by unfold Hid oneS; rfl
        have hc1 : min ((x : Int) + 1) 1099511627776 = ((min (x + 1) szM : Nat) : Int) := capV (x + 1)
        rw [hc1]
        have hy : min (x + 1) szM ≤ 1099511627776 := Nat.min_le_right _ _
        generalize min (x + 1) szM = y at *
        go_wp2_with fail
        refine (cap_any _ _).mono ?_; rintro e w5 ⟨rfl, rfl⟩
        go_wp2
        go_ret
        have HY : min (256 * (y : Int)) 1099511627776 = ((min (256 * y) szM : Nat) : Int) := by rw [szM_eq]; omega
        exact ⟨by rw [HSZ.out, HZ.out, ← HY]; rfl, HS3.out.bel⟩
      ·
        obtain rfl : na = (i : Int) - 1 := ha
        have CI : Hid (∀ w', NRow w' (some ⟨ba, oa, none⟩) l → Calls Try.prog 13 #[.agg #[.slice (some ⟨ba, oa, none⟩) l.length c], .int .i64 ((i : Int) - 1)] w' (Ans w' (.int .i64 ((szN l (i - 1) : Nat) : Int)))) := fun w' h => by
          have := IH.out (i - 1) (by omega) (by omega) (HOK.out.down (by omega)) w' h
          rwa [show ((i - 1 : Nat) : Int) = (i : Int) - 1 by omega] at this
        have hx := szN_le l (i - 1)
        have hsz := szN_one (l := l) hi0 (by rw [hn]; exact hk) (by rw [hn])
        rw [hn, HV.out] at hsz
        rw [szM_eq] at hx
        simp only at hsz
        generalize szN l (i - 1) = x at *
        clear hk hr
        have HSZ := Lib.hid hsz
        clear hsz
        go_wp2_with fail
        refine (CI.out _ HS2.out.row).mono ?_; rintro e w3 ⟨rfl, hb3⟩
        have HS3 := Lib.hid (HS2.out.later hb3)
        clear hb3 e0 f0 f1 f2 f3 f4 f5 f6 f7 f8 f9
        obtain ⟨f0, f1, f2, f3, f4, f5, f6, f7, f8, f9⟩ := ten_cells HS3.out.who
        go_wp2_with fail
        refine (cap_any _ _).mono ?_; rintro e w5 ⟨rfl, rfl⟩
        have HZ : Hid (oneS 9 nhi x = min (256 + min (65536 * min (x + 1) szM) szM) szM) := by unfold Hid oneS; rfl
        have hc1 : min ((x : Int) + 1) 1099511627776 = ((min (x + 1) szM : Nat) : Int) := capV (x + 1)
        rw [hc1]
        have hy : min (x + 1) szM ≤ 1099511627776 := Nat.min_le_right _ _
        generalize min (x + 1) szM = y at *
        go_wp2_with fail
        refine (cap_any _ _).mono ?_; rintro e w5 ⟨rfl, rfl⟩
        go_wp2
        go_ret
        have HY : min (256 + 65536 * (y : Int)) 1099511627776 = ((min (256 + min (65536 * y) szM) szM : Nat) : Int) := by rw [szM_eq]; omega
        exact ⟨by rw [HSZ.out, HZ.out, ← HY]; rfl, HS3.out.bel⟩
    | two hk hi0 hb ha hf0 hl hc hf =>
      simp only at hk ha hb hl hc
      clear hl hc
      rcases hk with rfl | rfl
      ·
        have hk : (4 : Int) = 4 ∨ (4 : Int) = 5 := .inl rfl
        obtain rfl : nb = (i : Int) - 1 := hb
        have hfl := firstP_le l (i - 1)
        obtain ⟨p, hp⟩ : ∃ p, firstP l (i - 1) = p + 1 := ⟨firstP l (i - 1) - 1, by omega⟩
        rw [hp] at ha hfl hf0
        obtain rfl : na = (p : Int) := by omega
        have CI : Hid (∀ w', NRow w' (some ⟨ba, oa, none⟩) l → Calls Try.prog 13 #[.agg #[.slice (some ⟨ba, oa, none⟩) l.length c], .int .i64 ((i : Int) - 1)] w' (Ans w' (.int .i64 ((szN l (i - 1) : Nat) : Int)))) := fun w' h => by
          have := IH.out (i - 1) (by omega) (by omega) (HOK.out.down (by omega)) w' h
          rwa [show ((i - 1 : Nat) : Int) = (i : Int) - 1 by omega] at this
        have CP : Hid (∀ w', NRow w' (some ⟨ba, oa, none⟩) l → Calls Try.prog 13 #[.agg #[.slice (some ⟨ba, oa, none⟩) l.length c], .int .i64 (p : Int)] w' (Ans w' (.int .i64 ((szN l p : Nat) : Int)))) := fun w' h => IH.out p (by omega) (by omega) (HOK.out.down (by omega)) w' h
        have hx := szN_le l (i - 1)
        have hy := szN_le l p
        have hsz := szN_two (l := l) (p := p) hi0 (by rw [hn]; exact hk) (by rw [hn]) (by omega) (by rw [hn])
        rw [HV.out] at hsz
        rw [szM_eq] at hx hy
        generalize szN l (i - 1) = x at *
        generalize szN l p = y at *
        clear hk hp ha hf0 hfl hf
        have HSZ := Lib.hid hsz
        clear hsz
        go_wp2_with fail
        refine (CP.out _ HS2.out.row).mono ?_; rintro e w3 ⟨rfl, hb3⟩
        have HS3 := Lib.hid (HS2.out.later hb3)
        clear hb3 e0 f0 f1 f2 f3 f4 f5 f6 f7 f8 f9
        have e0 := HS3.out.box.cell 0
        simp at e0
        obtain ⟨f0, f1, f2, f3, f4, f5, f6, f7, f8, f9⟩ := ten_cells HS3.out.who
        go_wp2_with fail
        refine (CI.out _ HS3.out.row).mono ?_; rintro e w4 ⟨rfl, hb4⟩
        have HS4 := Lib.hid (HS3.out.later hb4)
        clear hb4 e0 f0 f1 f2 f3 f4 f5 f6 f7 f8 f9
        obtain ⟨f0, f1, f2, f3, f4, f5, f6, f7, f8, f9⟩ := ten_cells HS4.out.who
        go_wp2_with fail
        refine (cap_any _ _).mono ?_; rintro e w5 ⟨rfl, rfl⟩
        go_wp2
        go_ret
        exact ⟨by rw [HSZ.out, ← capV]; rfl, HS4.out.bel⟩
      ·
        have hk : (5 : Int) = 4 ∨ (5 : Int) = 5 := .inr rfl
        obtain rfl : nb = (i : Int) - 1 := hb
        have hfl := firstP_le l (i - 1)
        obtain ⟨p, hp⟩ : ∃ p, firstP l (i - 1) = p + 1 := ⟨firstP l (i - 1) - 1, by omega⟩
        rw [hp] at ha hfl hf0
        obtain rfl : na = (p : Int) := by omega
        have CI : Hid (∀ w', NRow w' (some ⟨ba, oa, none⟩) l → Calls Try.prog 13 #[.agg #[.slice (some ⟨ba, oa, none⟩) l.length c], .int .i64 ((i : Int) - 1)] w' (Ans w' (.int .i64 ((szN l (i - 1) : Nat) : Int)))) := fun w' h => by
          have := IH.out (i - 1) (by omega) (by omega) (HOK.out.down (by omega)) w' h
          rwa [show ((i - 1 : Nat) : Int) = (i : Int) - 1 by omega] at this
        have CP : Hid (∀ w', NRow w' (some ⟨ba, oa, none⟩) l → Calls Try.prog 13 #[.agg #[.slice (some ⟨ba, oa, none⟩) l.length c], .int .i64 (p : Int)] w' (Ans w' (.int .i64 ((szN l p : Nat) : Int)))) := fun w' h => IH.out p (by omega) (by omega) (HOK.out.down (by omega)) w' h
        have hx := szN_le l (i - 1)
        have hy := szN_le l p
        have hsz := szN_two (l := l) (p := p) hi0 (by rw [hn]; exact hk) (by rw [hn]) (by omega) (by rw [hn])
        rw [HV.out] at hsz
        rw [szM_eq] at hx hy
        generalize szN l (i - 1) = x at *
        generalize szN l p = y at *
        clear hk hp ha hf0 hfl hf
        have HSZ := Lib.hid hsz
        clear hsz
        go_wp2_with fail
        refine (CP.out _ HS2.out.row).mono ?_; rintro e w3 ⟨rfl, hb3⟩
        have HS3 := Lib.hid (HS2.out.later hb3)
        clear hb3 e0 f0 f1 f2 f3 f4 f5 f6 f7 f8 f9
        have e0 := HS3.out.box.cell 0
        simp at e0
        obtain ⟨f0, f1, f2, f3, f4, f5, f6, f7, f8, f9⟩ := ten_cells HS3.out.who
        go_wp2_with fail
        refine (CI.out _ HS3.out.row).mono ?_; rintro e w4 ⟨rfl, hb4⟩
        have HS4 := Lib.hid (HS3.out.later hb4)
        clear hb4 e0 f0 f1 f2 f3 f4 f5 f6 f7 f8 f9
        obtain ⟨f0, f1, f2, f3, f4, f5, f6, f7, f8, f9⟩ := ten_cells HS4.out.who
        go_wp2_with fail
        refine (cap_any _ _).mono ?_; rintro e w5 ⟨rfl, rfl⟩
        go_wp2
        go_ret
        exact ⟨by rw [HSZ.out, ← capV]; rfl, HS4.out.bel⟩
set_option maxHeartbeats 16000000 in
set_option maxRecDepth 100000 in
theorem rsof_any (l : List Nd) (A : Option Addr) (c : Nat) (hF : Form l) (hc : l.length ≤ c) (hlen : l.length ≤ 536870912) (htx : Txt l) (w : World) (hrow : NRow w A l) :
    Calls Try.prog 11 #[.agg #[.slice A l.length c]] w (Ans w (.int .i64 ((szD l : Nat) : Int))) := by
  have hpos := hF.1
  have HB := (Below.refl w.heap.size w).alloc (Nat.le_refl _) (.cells #[.slice A l.length c] 24)
  have HS0 : Hid (FstS w A l c (w.alloc (.cells #[.slice A l.length c] 24))) := ⟨HB, hrow.later HB, Blk.new _ _ _⟩
  have CN : Hid (∀ w', NRow w' A l → Calls Try.prog 13 #[.agg #[.slice A l.length c], .int .i64 ((l.length : Int) - 1)] w' (Ans w' (.int .i64 ((szN l (l.length - 1) : Nat) : Int)))) := fun w' h => by
    have := rsnode_any l A c hc hlen htx (l.length - 1) (by omega) (hF.okTo (by omega)) w' h
    rwa [show ((l.length - 1 : Nat) : Int) = (l.length : Int) - 1 by omega] at this
  obtain ⟨v, hv⟩ : ∃ v, szD l = v := ⟨_, rfl⟩
  rw [hv]
  have HV : Hid (min (szN l (l.length - 1) + 1) szM = v) := hv
  have hx := szN_le l (l.length - 1)
  rw [szM_eq] at hx
  generalize szN l (l.length - 1) = x at *
  have hmin : -9223372036854775808 ≤ (l.length : Int) - 1 := by omega
  clear hrow HB hv hF
  go_enter Try.func11, Try.ntmps11
  go_upto_region 1 with (fail)
  generalize w.alloc (.cells #[.slice A l.length c] 24) = w1 at *
  have e0 := HS0.out.box.cell 0
  simp at e0
  go_wp2_with fail
  refine (CN.out _ HS0.out.row).mono ?_; rintro e w2 ⟨rfl, hb2⟩
  have HB := Lib.hid (HS0.out.bel.trans (hb2.mono HS0.out.bel.size))
  clear hb2 e0
  go_wp2_with fail
  refine (cap_any _ _).mono ?_
  rintro e w3 ⟨rfl, rfl⟩
  go_wp2
  go_ret
  exact ⟨by rw [← HV.out, ← capV]; rfl, HB.out⟩
end Go.Proofs.Ytnjkljjeldnblaa
/- Sizes: what the laws call, of descriptions wherever they stand. -/
namespace Go.Proofs.Ytnjkljjeldnblaa
open Go Go.RowKit
set_option linter.unusedVariables false
set_option linter.unusedSimpArgs false

/-- A description that has its form, and isn't long. -/
structure Sm (l : List Nd) : Prop where
  form : Form l
  len : l.length ≤ 1000
  txt : Txt l
theorem Form.at_ {l : List Nd} (h : Form l) {n : Nd} (hn : n ∈ l) : ∃ i, i < l.length ∧ atN l i = n := by
  obtain ⟨i, hi, rfl⟩ := List.mem_iff_getElem.1 hn
  exact ⟨i, hi, by unfold atN; rw [List.getD_eq_getElem?_getD, List.getElem?_eq_getElem hi]; rfl⟩
theorem okN.ndOk {l : List Nd} {i : Nat} {n : Nd} (h : okN l i n) (ht : n.text.length ≤ 281474976710656) : NdOk n := by
  obtain ⟨hb, hk⟩ := h
  have hh : n.hi = 0 ∨ (0 ≤ n.hi ∧ n.hi ≤ 255) := by
    rcases hk with hk | hk | ⟨hk, _⟩ | ⟨hk, _⟩ | ⟨hk, _, h1, h2, h3⟩ | ⟨hk, _⟩
    · left; rw [← hb]; unfold backN; rw [if_pos hk]
    · left; rw [← hb]; unfold backN; rw [if_neg (by omega), if_pos hk]
    · left; rw [← hb]; unfold backN; rw [if_neg (by omega), if_neg (by omega), if_pos hk]
    · left; rw [← hb]; unfold backN; rw [if_neg (by omega), if_neg (by omega), if_neg (by omega), if_pos hk]
    · right; omega
    · left; rw [← hb]; unfold backN; rw [if_neg (by omega), if_neg (by omega), if_neg (by omega), if_neg (by omega), if_neg (by omega), if_pos hk]
  exact ⟨by omega, by omega, ht⟩
theorem Sm.ok {l : List Nd} (h : Sm l) : ∀ n ∈ l, NdOk n := fun n hn => by
  obtain ⟨i, hi, rfl⟩ := h.form.at_ hn
  exact (h.form.2.1 i hi).ndOk (txt_at h.txt i)
theorem Sm.mv {l : List Nd} (h : Sm l) {d : Int} (h1 : -1073741824 ≤ d) (h2 : d ≤ 1073741824) : ∀ n ∈ l, MvOk d n ∧ n.kind ≤ 9 := fun n hn => by
  have hl := h.len
  obtain ⟨i, hi, rfl⟩ := h.form.at_ hn
  exact ⟨(h.form.2.1 i hi).mvOk (by omega) (txt_at h.txt i) h1 h2, (h.form.2.1 i hi).kind9⟩
theorem Txt.snoc {l : List Nd} (h : Txt l) {n : Nd} (hn : n.text = []) : Txt (l ++ [n]) := fun m hm => by
  rcases List.mem_append.1 hm with h1 | h1
  · exact h m h1
  · rw [List.mem_singleton.1 h1, hn]; simp
theorem Txt.mv {l : List Nd} (h : Txt l) (d : Int) : Txt (l.map (mvN d)) := fun m hm => by
  obtain ⟨n, hn, rfl⟩ := List.mem_map.1 hm
  have e : (mvN d n).text = n.text := by unfold mvN; (repeat' split) <;> rfl
  rw [e]; exact h n hn
theorem Sm.wrap {l : List Nd} (h : Sm l) (hl : l.length ≤ 999) {kind : Int} (hk : kind = 6 ∨ kind = 8 ∨ kind = 9) : Sm (wrapL kind 0 0 l) :=
  ⟨wrap_form h.form hk ⟨rfl, rfl⟩, by unfold wrapL; rw [List.length_append]; simp; omega, by unfold wrapL; exact h.txt.snoc rfl⟩
theorem Sm.rep {l : List Nd} (h : Sm l) (hl : l.length ≤ 999) {lo hi : Int} (h1 : 0 ≤ lo) (h2 : lo ≤ hi) (h3 : hi ≤ 255) : Sm (wrapL 7 lo hi l) :=
  ⟨wrap_form7 h.form h1 h2 h3, by unfold wrapL; rw [List.length_append]; simp; omega, by unfold wrapL; exact h.txt.snoc rfl⟩
theorem Sm.pair {l m : List Nd} (h : Sm l) (k : Sm m) (hl : l.length + m.length ≤ 999) {kind : Int} (hk : kind = 4 ∨ kind = 5) : Sm (pairL kind l m) :=
  ⟨pair_form h.form k.form hk, by unfold pairL; rw [List.length_append, List.length_append, List.length_map]; simp; omega, by
    unfold pairL
    refine Txt.snoc (fun n hn => ?_) rfl
    rcases List.mem_append.1 hn with h1 | h1
    · exact h.txt n h1
    · exact k.txt.mv _ n h1⟩
theorem Sm.sub {l : List Nd} (h : Sm l) {i : Nat} (hi : i < l.length) : Sm (subL l i) :=
  ⟨sub_form hi (h.form.okTo hi), by have := h.len; rw [subL_length hi]; omega, by
    unfold subL
    refine Txt.mv (fun n hn => ?_) _
    unfold seg at hn
    exact h.txt n (List.mem_of_mem_drop (List.mem_of_mem_take hn))⟩
theorem wrapL_length (kind lo hi : Int) (l : List Nd) : (wrapL kind lo hi l).length = l.length + 1 := by unfold wrapL; rw [List.length_append]; rfl
theorem IsD.sof {l : List Nd} {v : Value} {w : World} (h : IsD l v w) (hs : Sm l) : Calls Try.prog 10 #[v] w (Ans w (.int .i64 ((szD l : Nat) : Int))) := by
  obtain ⟨A, c, hc, rfl, hr⟩ := h
  exact sof_any l A c hs.form.1 hc (by have := hs.len; omega) hs.ok w hr
theorem IsD.snode {l : List Nd} {v : Value} {w : World} (h : IsD l v w) (hs : Sm l) {i : Nat} (hi : i < l.length) : Calls Try.prog 12 #[v, .int .i64 (i : Int)] w (Ans w (.int .i64 ((szN l i : Nat) : Int))) := by
  obtain ⟨A, c, hc, rfl, hr⟩ := h
  exact snode_any l A c i hi hc (by have := hs.len; omega) hs.ok w hr
theorem IsD.rof {l : List Nd} {v : Value} {w : World} (h : IsD l v w) (hs : Sm l) : Calls Try.prog 11 #[v] w (Ans w (.int .i64 ((szD l : Nat) : Int))) := by
  obtain ⟨A, c, hc, rfl, hr⟩ := h
  exact rsof_any l A c hs.form hc (by have := hs.len; omega) hs.txt w hr
theorem IsD.rnode {l : List Nd} {v : Value} {w : World} (h : IsD l v w) (hs : Sm l) {i : Nat} (hi : i < l.length) : Calls Try.prog 13 #[v, .int .i64 (i : Int)] w (Ans w (.int .i64 ((szN l i : Nat) : Int))) := by
  obtain ⟨A, c, hc, rfl, hr⟩ := h
  exact rsnode_any l A c hc (by have := hs.len; omega) hs.txt i hi (hs.form.okTo hi) w hr
theorem IsD.rwrap {l : List Nd} {v : Value} {w : World} (h : IsD l v w) (hs : Sm l) (kind lo hi : Int) : Calls Try.prog 18 #[.int .i64 kind, .int .i64 lo, .int .i64 hi, v] w (DPost w (wrapL kind lo hi l)) := by
  obtain ⟨A, c, hc, rfl, hr⟩ := h
  exact rwrap_any kind lo hi l A c hs.form.1 (by have := hs.len; omega) (hs.mv (by omega) (by omega)) w hr
theorem IsD.rpair {l m : List Nd} {u v : Value} {w : World} (h : IsD l u w) (k : IsD m v w) (hs : Sm l) (ks : Sm m) (kind : Int) : Calls Try.prog 17 #[.int .i64 kind, u, v] w (DPost w (pairL kind l m)) := by
  obtain ⟨A, c, hc, rfl, hr⟩ := h
  obtain ⟨B, d, hd, rfl, hq⟩ := k
  have h1 := hs.len
  have h2 := ks.len
  exact rpairs_any kind l m A B c d hs.form.1 ks.form.1 (by omega) (by omega) (hs.mv (by omega) (by omega)) (ks.mv (by omega) (by omega)) w hr hq
theorem IsD.rsub {l : List Nd} {v : Value} {w : World} (h : IsD l v w) (hs : Sm l) {i : Nat} (hi : i < l.length) : Calls Try.prog 16 #[v, .int .i64 (i : Int)] w (DPost w (subL l i)) := by
  obtain ⟨A, c, hc, rfl, hr⟩ := h
  exact rsub_any l A c i hc hi (by have := hs.len; omega) (hs.form.okTo hi) hs.txt w hr
end Go.Proofs.Ytnjkljjeldnblaa
