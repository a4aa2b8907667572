/- Sizes: sums, times, parts, bounds: walked. -/
import Derived.Test.YtnjkljjeldnblaaM17
import Derived.Test.YtnjkljjeldnblaaM12
import Derived.Test.YtnjkljjeldnblaaM16
import Derived.Laws.MakeOwn
namespace Go.Proofs.Ytnjkljjeldnblaa
open Go Go.RowKit
set_option linter.unusedVariables false
set_option linter.unusedSimpArgs false

theorem szM_eq : szM = 1099511627776 := rfl
/-- Numbers as the rows have them. -/
def natI (l : List Nat) : List Int := l.map (fun n : Nat => (n : Int))
theorem natI_length (l : List Nat) : (natI l).length = l.length := List.length_map _
theorem natI_get {l : List Nat} {i : Nat} (h : i < l.length) : (natI l).getD i 0 = ((l.getD i 0 : Nat) : Int) := by
  unfold natI
  rw [List.getD_eq_getElem?_getD, List.getD_eq_getElem?_getD, List.getElem?_map, List.getElem?_eq_getElem h]; rfl
theorem sum_snoc {l : List Nat} {k : Nat} (h : k < l.length) : (l.take (k + 1)).sum = (l.take k).sum + l.getD k 0 := by
  rw [List.getD_eq_getElem?_getD, List.getElem?_eq_getElem h, List.take_add_one, List.getElem?_eq_getElem h, List.sum_append]; simp [Option.toList]
theorem irow1 {w : World} {b : Nat} {x : Nat} (h : Blk w b #[.int .i64 (x : Int)] 3) : IRow w (some ⟨b, 0, none⟩) (natI [x]) := fun i hi => by
  have hi : i < 1 := hi
  obtain rfl : i = 0 := by omega
  exact ⟨b, 0, rfl, h.lt, by rw [h.cell]; rfl⟩
theorem irow2 {w : World} {b : Nat} {x y : Nat} (h : Blk w b #[.int .i64 (x : Int), .int .i64 (y : Int)] 3) : IRow w (some ⟨b, 0, none⟩) (natI [x, y]) := fun i hi => by
  have hi : i < 2 := hi
  refine ⟨b, 0, rfl, h.lt, ?_⟩
  rw [h.cell]
  obtain rfl | rfl : i = 0 ∨ i = 1 := by omega
  · rfl
  · rfl
def SumL (w0 : World) (l : List Nat) (s i : Value) (w : World) : Prop := ∃ k : Nat, k ≤ l.length ∧ i = .int .i64 (k : Int) ∧ s = .int .i64 ((min (l.take k).sum szM : Nat) : Int) ∧ w = w0
set_option maxHeartbeats 4000000 in
set_option maxRecDepth 100000 in
theorem sum_any (l : List Nat) (A : Option Addr) (c : Nat) (hl : l.length ≤ 1000) (hb : ∀ x ∈ l, x ≤ 9223372036854775807) (w : World) (hrow : IRow w A (natI l)) :
    Calls Try.prog 20 #[.slice A l.length c] w (Pure w (.int .i64 ((min l.sum szM : Nat) : Int))) := by
  obtain ⟨v, hv⟩ : ∃ v, min l.sum szM = v := ⟨_, rfl⟩
  rw [hv]
  have HV := Lib.hid hv
  have HX := Lib.hid hb
  clear hv hb
  go_enter Try.func20, Try.ntmps20
  go_wp2
  go_loopw [3, 8] (SumL w l) (fun _ i _ => l.length - (intOf i).toNat)
  case atStart => exact ⟨0, Nat.zero_le _, rfl, by simp, rfl⟩
  case round =>
    obtain ⟨k, hk, rfl, rfl, rfl⟩ := hrel
    by_cases hlt : k < l.length
    · have hltz : (k : Int) < (l.length : Int) := by omega
      obtain ⟨b, off, rfl, -, hc⟩ := hrow k (by rw [natI_length]; exact hlt)
      rw [natI_get hlt] at hc
      have hx := HX.out (l.getD k 0) (by rw [List.getD_eq_getElem?_getD, List.getElem?_eq_getElem hlt]; exact List.getElem_mem _)
      have HN := Lib.hid (sum_snoc hlt)
      generalize l.getD k 0 = x at *
      generalize (l.take k).sum = q at *
      have hq : min q szM ≤ 1099511627776 := Nat.min_le_right _ _
      have HQ : Hid ((min q szM : Nat) + min (x : Int) (1099511627776 - ((min q szM : Nat) : Int)) = ((min (q + x) szM : Nat) : Int)) := by unfold Hid; rw [szM_eq]; omega
      generalize min q szM = m at *
      go_wp2
      go_roundw
      case rel => exact ⟨k + 1, by omega, by go_num, by rw [HN.out, ← HQ.out], rfl⟩
      case measure => simp [intOf] <;> omega
    · obtain rfl : k = l.length := by omega
      have hlast : ¬ ((l.length : Nat) : Int) < (l.length : Int) := by omega
      rw [List.take_length] at *
      have hv := HV.out
      rw [hv]
      go_wp2
      go_ret
      exact ⟨rfl, rfl⟩
set_option maxHeartbeats 4000000 in
set_option maxRecDepth 100000 in
theorem times_any (n : Int) (s : Nat) (hs : s ≤ szM) (h1 : -9223372036854775808 ≤ n) (h2 : n ≤ 9223372036854775807) (w : World) :
    Calls Try.prog 26 #[.int .i64 n, .int .i64 (s : Int)] w (Pure w (.int .i64 ((min (n.toNat * s) szM : Nat) : Int))) := by
  rw [szM_eq] at hs ⊢
  by_cases hn : n ≤ 0
  · have e : min (n.toNat * s) 1099511627776 = 0 := by rw [show n.toNat = 0 by omega]; simp
    rw [e]
    go_enter Try.func26, Try.ntmps26
    go_wp2
    go_ret
    exact ⟨rfl, rfl⟩
  · by_cases h0 : s = 0
    · subst h0
      have e : min (n.toNat * 0) 1099511627776 = 0 := by simp
      rw [e]
      have hz : (((0 : Nat) : Int) == 0) = true := rfl
      go_enter Try.func26, Try.ntmps26
      go_wp2
      go_ret
      exact ⟨rfl, rfl⟩
    · have hz : ((s : Int) == 0) = false := by simp; exact h0
      have hd : Int.tdiv 1099511627776 (s : Int) = ((1099511627776 / s : Nat) : Int) := rfl
      have he : (1099511627776 : Int) / (s : Int) = ((1099511627776 / s : Nat) : Int) := rfl
      have hle : 1099511627776 / s ≤ 1099511627776 := Nat.div_le_self _ _
      have hlt := Nat.div_lt_iff_lt_mul (x := 1099511627776) (y := n.toNat) (k := s) (by omega)
      have hw : wrap64 (Int.tdiv 1099511627776 (s : Int)) = ((1099511627776 / s : Nat) : Int) := by rw [hd]; generalize 1099511627776 / s = q at *; unfold wrap64; omega
      obtain ⟨q, hq⟩ : ∃ q, q = 1099511627776 / s := ⟨_, rfl⟩
      rw [← hq] at hd hle hlt hw he
      clear hq
      have hnz : n = (n.toNat : Int) := by omega
      obtain ⟨m, hm⟩ : ∃ m, m = n.toNat := ⟨_, rfl⟩
      rw [← hm] at hlt hnz ⊢
      clear hm
      subst hnz
      have hpz : ((m : Int) ≤ 0) = False := by simp; omega
      by_cases hg : q < m
      · have hgz : (1099511627776 : Int) / (s : Int) < (m : Int) := by rw [he]; omega
        have e : min (m * s) 1099511627776 = 1099511627776 := Nat.min_eq_right (Nat.le_of_lt (hlt.1 hg))
        rw [e]
        clear hlt hd hw he
        go_enter Try.func26, Try.ntmps26
        go_wp2
        go_ret
        exact ⟨rfl, rfl⟩
      · have hgz : ¬ (1099511627776 : Int) / (s : Int) < (m : Int) := by rw [he]; omega
        have hms : m * s ≤ 1099511627776 := Nat.le_of_not_lt (fun h => hg (hlt.2 h))
        have e : min (m * s) 1099511627776 = m * s := Nat.min_eq_left hms
        have e2 : wrap64 ((m : Int) * (s : Int)) = ((m * s : Nat) : Int) := by rw [show (m : Int) * (s : Int) = ((m * s : Nat) : Int) by simp]; unfold wrap64; omega
        rw [e]
        have E2 := Lib.hid e2
        clear hlt hd hw he e e2
        go_enter Try.func26, Try.ntmps26
        go_wp2
        go_ret
        exact ⟨rfl, rfl⟩
set_option maxHeartbeats 4000000 in
set_option maxRecDepth 100000 in
theorem part_any (S : List Nat) (a : Int) (A : Option Addr) (c : Nat) (w : World) (hrow : IRow w A (natI S)) :
    Calls Try.prog 25 #[.slice A S.length c, .int .i64 a] w (Pure w (.int .i64 ((partS S a : Nat) : Int))) := by
  go_enter Try.func25, Try.ntmps25
  by_cases h0 : a < 0
  · have e : partS S a = 0 := by unfold partS; rw [if_neg (by omega)]
    rw [e]
    go_wp2
    go_ret
    exact ⟨rfl, rfl⟩
  · by_cases h1 : a < (S.length : Int)
    · obtain ⟨k, rfl⟩ : ∃ k : Nat, a = (k : Int) := ⟨a.toNat, by omega⟩
      have hk : k < S.length := by omega
      obtain ⟨b, off, rfl, -, hc⟩ := hrow k (by rw [natI_length]; exact hk)
      rw [natI_get hk] at hc
      have e : partS S (k : Int) = S.getD k 0 := by unfold partS; rw [if_pos (by omega)]; rfl
      rw [e]
      generalize S.getD k 0 = x at *
      have h2 : ¬ (k : Int) ≥ (S.length : Int) := by omega
      go_wp2
      go_ret
      exact ⟨rfl, rfl⟩
    · have e : partS S a = 0 := by unfold partS; rw [if_neg (by omega)]
      rw [e]
      have h2 : a ≥ (S.length : Int) := by omega
      go_wp2
      go_ret
      exact ⟨rfl, rfl⟩
set_option maxHeartbeats 4000000 in
set_option maxRecDepth 100000 in
theorem cap_any (n : Int) (w : World) : Calls Try.prog 21 #[.int .i64 n] w (Pure w (.int .i64 (min n 1099511627776))) := by
  go_enter Try.func21, Try.ntmps21
  go_wp2
  go_ret
  exact ⟨rfl, rfl⟩
end Go.Proofs.Ytnjkljjeldnblaa
/- Leaf, Wrap, Pair: walked. -/
namespace Go.Proofs.Ytnjkljjeldnblaa
open Go Go.RowKit
set_option linter.unusedVariables false
set_option linter.unusedSimpArgs false

theorem NRow.ofBlk {w : World} {b : Nat} {n : Nd} (h : Blk w b (ndC n) 36) : NRow w (some ⟨b, 0, none⟩) [n] := fun i hi => by
  obtain rfl : i = 0 := by simpa using hi
  refine ⟨b, 0, rfl, h.lt, fun j hj => ?_⟩
  rw [Nat.zero_mul, Nat.zero_add, h.cell]; rfl
/-- A row at the head of a block of its own. -/
def ownP (g cap : Nat) (L : List Nd) (w : World) : Prop := OwnN w g (.slice (some ⟨g, 0, none⟩) L.length cap) L
theorem ownP.later {g cap : Nat} {L : List Nd} {w w' : World} (h : ownP g cap L w) (hb : Below w.heap.size w w') : ownP g cap L w' := OwnN.later h hb
theorem ownP.front {g cap : Nat} {L X : List Nd} {w : World} (h : ownP g cap (L ++ X) w) : ownP g cap L w := by
  obtain ⟨h0, ⟨hv, hn⟩ | ⟨g', cap', cur, hv, hb, hg, hc, hm, hs, ht⟩⟩ := h
  · cases hv
  · cases hv
    refine ⟨flat10_length L, .inr ⟨g, cap, cur, rfl, hb, hg, ?_, hm, hs, ?_⟩⟩
    · rw [List.length_append] at hc; omega
    · rw [List.length_append, flat10_append] at ht
      have h2 : List.take (L.length * 10) (flat10 L ++ flat10 X) = flat10 L := by rw [List.take_append_of_le_length (by rw [flat10_length]; omega), List.take_of_length_le (by rw [flat10_length]; omega)]
      have := congrArg (List.take (L.length * 10)) ht
      rw [List.take_take, Nat.min_eq_left (by omega), h2] at this
      exact this
theorem ownP.lt {g cap : Nat} {L : List Nd} {w : World} (h : ownP g cap L w) : g < w.heap.size := by
  obtain ⟨h0, ⟨hv, hn⟩ | ⟨g', cap', cur, hv, hb, hg, hr⟩⟩ := h
  · cases hv
  · cases hv
    exact Blk.lt (w := w) (b := g) (vs := cur) (t := 36) hg
/-- How worlds go on where one row is written: what is owned before stays owned, and so does what is owned behind. -/
def RW (g cap : Nat) (L0 L1 : List Nd) (w w' : World) : Prop := w.grownBy w' (some g) ∧ (ownP g cap L0 w → ownP g cap L0 w') ∧ (ownP g cap L1 w → ownP g cap L1 w')
theorem RW.of {g cap : Nat} {L0 L1 : List Nd} (w w' : World) (hb : Below w.heap.size w w') : RW g cap L0 L1 w w' := ⟨gb_of hb, fun h => h.later hb, fun h => h.later hb⟩
theorem Blk.grow {w w' : World} {b g : Nat} {vs : Array Value} {t : TypeId} (h : Blk w b vs t) (hne : b ≠ g) (hg : w.grownBy w' (some g)) : Blk w' b vs t := (hg.block b h.lt (fun e => hne (Option.some.inj e))).trans h
structure WrS (w0 : World) (g cap : Nat) (L0 : List Nd) (A : Option Addr) (m : List Nd) (c bd br bw : Nat) (wh : Nd) (w : World) : Prop where
  bel : Below w0.heap.size w0 w
  row : NRow w A m
  box : Blk w bd #[.slice A m.length c] 24
  res : Blk w br #[.slice none 0 0] 24
  who : Blk w bw (ndC wh) 36
  own : ownP g cap L0 w
structure WrN (w0 : World) (g : Nat) (A : Option Addr) (bd br bw : Nat) : Prop where
  low : w0.heap.size ≤ g
  a : ∀ b o, A = some ⟨b, o, none⟩ → b ≠ g
  d : bd ≠ g
  r : br < g
  w : bw ≠ g
theorem WrS.grow {w0 w w' : World} {g cap : Nat} {L0 L1 : List Nd} {A : Option Addr} {m : List Nd} {c bd br bw : Nat} {wh : Nd} (hn : WrN w0 g A bd br bw) (h : WrS w0 g cap L0 A m c bd br bw wh w) (hr : RW g cap L0 L1 w w') : WrS w0 g cap L0 A m c bd br bw wh w' :=
  ⟨h.bel.trans ⟨hr.1.os, hr.1.tape, hr.1.output, hr.1.size, fun k hk => hr.1.block k (Nat.lt_of_lt_of_le hk h.bel.size) (fun e => by have h1 := Option.some.inj e; have h2 := hn.low; omega)⟩, h.row.gb hn.a hr.1, h.box.grow hn.d hr.1, h.res.grow (by have := hn.r; omega) hr.1, h.who.grow hn.w hr.1, hr.2.1 h.own⟩
/-- A new row of one node. -/
def NewN (g : Nat) (wh : Nd) (v : Value) (w : World) : Prop := ∃ b, v = .slice (some ⟨b, 0, none⟩) 1 1 ∧ Blk w b (ndC wh) 36 ∧ b ≠ g
theorem NewN.grow {g cap : Nat} {L0 L1 : List Nd} (wh : Nd) (v : Value) (w w' : World) (h : NewN g wh v w) (hr : RW g cap L0 L1 w w') : NewN g wh v w' := by
  obtain ⟨b, h1, h2, h3⟩ := h
  exact ⟨b, h1, h2.grow h3 hr.1, h3⟩
/-- The row behind the call. -/
def LaidV (g cap : Nat) (L1 : List Nd) (v : Value) (w : World) : Prop := v = .slice (some ⟨g, 0, none⟩) L1.length cap ∧ ownP g cap L1 w
theorem LaidV.grow {g cap : Nat} {L0 : List Nd} (L1 : List Nd) (v : Value) (w w' : World) (h : LaidV g cap L1 v w) (hr : RW g cap L0 L1 w w') : LaidV g cap L1 v w' := ⟨h.1, hr.2.2 h.2⟩
theorem wpList_make_nd {w : World} {ops : Array Oper} {rest : List Oper} {o : Oper} {a : Act} {Q : Exit → Act → World → Prop} (hgd : o.guard = none) (l c : Operand) (hop : o.op = Op.makeSlice 22 l c)
    (C : Int) (n : Nat) (hl : a.eval l = .int .i64 0) (hc : a.eval c = .int .i64 C) (hC : C = (n : Int)) (hn : n ≤ 1073741824)
    (hK : ∀ w', ownP w.heap.size n [] w' → Below w.heap.size w w' → wpList Try.prog ops Q rest (a.put o.dst (.slice (some ⟨w.heap.size, 0, none⟩) 0 n)) w') : wpList Try.prog ops Q (o :: rest) a w := by
  obtain ⟨ib, hib, hz0, hz1, hz2⟩ := info_parts infoNd
  exact wpList_make_own w hgd l c 22 hop w.heap.size 36 ib _ 10 Try.underlying22 hib hz0 hz1 .i64 .i64 C n hl hc hC (by rw [hz2]; omega) (by unfold maxLen; omega) (Nat.le_refl _)
    fun w' h1 h2 => hK w' h1 ⟨h2.os, h2.tape, h2.output, h2.size, fun k hk => h2.block k hk (by simp)⟩
theorem wp_make_nd {w : World} {o : Oper} {a : Act} {K : Act → World → Prop} {Q : Exit → Act → World → Prop} (l c : Operand) (hop : o.op = Op.makeSlice 22 l c)
    (C : Int) (n : Nat) (hl : a.eval l = .int .i64 0) (hc : a.eval c = .int .i64 C) (hC : C = (n : Int)) (hn : n ≤ 1073741824)
    (hK : ∀ w', ownP w.heap.size n [] w' → Below w.heap.size w w' → K (a.put o.dst (.slice (some ⟨w.heap.size, 0, none⟩) 0 n)) w') : o.wp Try.prog a w K Q := by
  obtain ⟨ib, hib, hz0, hz1, hz2⟩ := info_parts infoNd
  obtain ⟨w', hrun, r1, r2⟩ := run_make_own (P := Try.prog) w w.heap.size 22 36 ib _ 10 Try.underlying22 hib hz0 hz1 .i64 .i64 n (by rw [hz2]; omega) (by unfold maxLen; omega) (Nat.le_refl _)
  subst hC
  unfold Oper.wp
  simp [execOp, hop, hl, hc, hrun, Result.andThen]
  exact hK w' r1 ⟨r2.os, r2.tape, r2.output, r2.size, fun k hk => r2.block k hk (by simp)⟩
def MadeN (lo cap : Nat) (v : Value) (w : World) : Prop := ∃ g, v = .slice (some ⟨g, 0, none⟩) 0 cap ∧ ownP g cap [] w ∧ lo ≤ g
theorem MadeN.later (lo cap : Nat) (v : Value) (w w' : World) (h : MadeN lo cap v w) (hb : Below w.heap.size w w') : MadeN lo cap v w' := by
  obtain ⟨g, h1, h2, h3⟩ := h
  exact ⟨g, h1, h2.later hb, h3⟩
structure PrS (w0 : World) (A B : Option Addr) (a b : List Nd) (c1 c2 lo bw : Nat) (wh : Nd) (w : World) : Prop where
  bel : Below w0.heap.size w0 w
  ra : NRow w A a
  rb : NRow w B b
  ba : Blk w w0.heap.size #[.slice A a.length c1] 24
  bb : Blk w (w0.heap.size + 1) #[.slice B b.length c2] 24
  res : Blk w (w0.heap.size + 2) #[.slice none 0 0] 24
  who : Blk w bw (ndC wh) 36
  low : lo ≤ w.heap.size
theorem PrS.later {w0 w w' : World} {A B : Option Addr} {a b : List Nd} {c1 c2 lo bw : Nat} {wh : Nd} (h : PrS w0 A B a b c1 c2 lo bw wh w) (hb : Below w.heap.size w w') : PrS w0 A B a b c1 c2 lo bw wh w' :=
  ⟨h.bel.trans (hb.mono h.bel.size), h.ra.later hb, h.rb.later hb, h.ba.later hb, h.bb.later hb, h.res.later hb, h.who.later hb, Nat.le_trans h.low hb.size⟩
theorem PrS.new (w : World) (A B : Option Addr) (a b : List Nd) (c1 c2 : Nat) (wh : Nd) (ha : NRow w A a) (hb : NRow w B b) :
    PrS w A B a b c1 c2 (w.heap.size + 4) (w.heap.size + 3) wh ((((w.alloc (.cells #[.slice A a.length c1] 24)).alloc (.cells #[.slice B b.length c2] 24)).alloc (.cells #[.slice none 0 0] 24)).alloc (.cells (ndC wh) 36)) := by
  have HB := ((((Below.refl w.heap.size w).alloc (Nat.le_refl _) (.cells #[.slice A a.length c1] 24)).alloc (by simp) (.cells #[.slice B b.length c2] 24)).alloc (by simp; omega) (.cells #[.slice none 0 0] 24)).alloc (by simp; omega) (.cells (ndC wh) 36)
  refine ⟨HB, ha.later HB, hb.later HB, (((Blk.new w _ _).alloc _).alloc _).alloc _, ?_, ?_, ?_, by simp⟩
  · have := ((Blk.new (w.alloc (.cells #[.slice A a.length c1] 24)) #[.slice B b.length c2] 24).alloc (.cells #[.slice none 0 0] 24)).alloc (.cells (ndC wh) 36)
    simpa using this
  · have := (Blk.new ((w.alloc (.cells #[.slice A a.length c1] 24)).alloc (.cells #[.slice B b.length c2] 24)) #[.slice none 0 0] 24).alloc (.cells (ndC wh) 36)
    simpa using this
  · have := Blk.new (((w.alloc (.cells #[.slice A a.length c1] 24)).alloc (.cells #[.slice B b.length c2] 24)).alloc (.cells #[.slice none 0 0] 24)) (ndC wh) 36
    simpa using this
end Go.Proofs.Ytnjkljjeldnblaa
/- The anchor of layer 4: answers that the document fixes. -/
namespace Go.Proofs.Ytnjkljjeldnblaa
open Go Go.RowKit
set_option linter.unusedVariables false
set_option linter.unusedSimpArgs false

def awA : List Nd := [{ kind := 1 }]
def awX : Nd := { kind := 3, text := [120] }
def awB : List Nd := [awX, { kind := 7, a := 0, lo := 1, hi := 2 }]
def awN2 : Nd := { kind := 7, a := 1, lo := 1, hi := 2 }
def awN3 : Nd := { kind := 5, a := 0, b := 2 }
def awD : List Nd := [{ kind := 1 }, awX, awN2, awN3]
theorem awB_eq : wrapL 7 1 2 [awX] = awB := by decide
theorem awD_eq : pairL 5 awA awB = awD := by decide
theorem form_one {n : Nd} (h : okN [n] 0 n) (hk : leafK n.kind) : Form [n] := by
  refine ⟨by simp, fun i hi => ?_, ?_⟩
  · obtain rfl : i = 0 := by simpa using hi
    exact h
  · show firstP [n] 0 = 0
    have := firstP_le [n] 0; omega
theorem awA_form : Form awA := form_one ⟨by decide, .inl rfl⟩ (.inl rfl)
theorem awX_form : Form [awX] := form_one ⟨by decide, .inr (.inr (.inl ⟨rfl, by decide⟩))⟩ (.inr (.inr rfl))
theorem awB_form : Form awB := by rw [← awB_eq]; exact wrap_form7 awX_form (by decide) (by decide) (by decide)
theorem awD_form : Form awD := by rw [← awD_eq]; exact pair_form awA_form awB_form (.inr rfl)
theorem awD_first2 : firstP awD 2 = 1 := by
  have := (pair_sub awA_form awB_form (kind := 5)).2.2
  rw [awD_eq] at this; exact this
theorem awD_sub2 : subL awD 2 = awB := by
  have := (pair_sub awA_form awB_form (kind := 5)).2.1
  rw [awD_eq] at this; exact this
theorem awD_first3 : firstP awD 3 = 0 := awD_form.2.2
theorem awD_cut : formB (awD.take 3) = false := formB_not (fun h => by
  have := (cut_form awD_form (k := 2) (by decide)).1 h
  rw [awD_first2] at this; cases this)
theorem awNil : formB [] = false := formB_not (fun h => by have := h.1; simp at this)
def awE : Nd := { kind := 1, a := 1 }
theorem awE_form : formB [awE] = false := formB_not (fun h => by
  have := (h.2.1 0 (by simp)).1
  exact absurd this (by decide))
theorem awTxt : Txt awD := fun n hn => by
  have : ∀ n ∈ awD, n.text.length ≤ 1 := by decide
  have := this n hn; omega
theorem mvOk0 {n : Nd} (ht : n.text.length ≤ 1000) (ha : -1000 ≤ n.a ∧ n.a ≤ 1000) (hb : -1000 ≤ n.b ∧ n.b ≤ 1000) {d : Int} (hd : -1000 ≤ d ∧ d ≤ 1000) : MvOk d n :=
  ⟨by omega, fun _ => wrap_in (by omega) (by omega), fun _ => wrap_in (by omega) (by omega)⟩
theorem awETxt : Txt [awE] := fun n hn => by simp at hn; subst hn; decide
theorem awq1 (w : World) : (binOp .eql 36 (.agg #[.int .i64 7, .int .i64 1, .int .i64 0, .int .i64 1, .int .i64 2, .int .u64 0, .int .u64 0, .int .u64 0, .int .u64 0, .string ⟨#[]⟩]) (.agg #[.int .i64 7, .int .i64 1, .int .i64 0, .int .i64 1, .int .i64 2, .int .u64 0, .int .u64 0, .int .u64 0, .int .u64 0, .string ⟨#[]⟩])).run Try.prog w = .ok (.bool true) w := by
  have := eql_nd awN2 awN2 w
  unfold awN2 at this
  rw [ndC_zero] at this
  exact this
theorem awq2 (w : World) : (binOp .eql 36 (.agg #[.int .i64 5, .int .i64 0, .int .i64 2, .int .i64 0, .int .i64 0, .int .u64 0, .int .u64 0, .int .u64 0, .int .u64 0, .string ⟨#[]⟩]) (.agg #[.int .i64 5, .int .i64 0, .int .i64 2, .int .i64 0, .int .i64 0, .int .u64 0, .int .u64 0, .int .u64 0, .int .u64 0, .string ⟨#[]⟩])).run Try.prog w = .ok (.bool true) w := by
  have := eql_nd awN3 awN3 w
  unfold awN3 at this
  rw [ndC_zero] at this
  exact this
end Go.Proofs.Ytnjkljjeldnblaa
/- The statement NodeParts of layer 4, walked. -/
namespace Go.Proofs.Ytnjkljjeldnblaa
open Go Go.RowKit
set_option linter.unusedVariables false
set_option linter.unusedSimpArgs false

theorem Form.mvOk {l : List Nd} (h : Form l) (ht : Txt l) (hlen : l.length ≤ 1073741823) {d : Int} (h1 : -1073741824 ≤ d) (h2 : d ≤ 1073741824) : ∀ n ∈ l, MvOk d n := fun n hn => by
  obtain ⟨i, hi, e⟩ := List.mem_iff_getElem.1 hn
  have ha : atN l i = n := by unfold atN; rw [List.getD_eq_getElem?_getD, List.getElem?_eq_getElem hi]; exact e
  have := (h.2.1 i hi).mvOk (by omega) (txt_at ht i) h1 h2
  rwa [ha] at this
theorem txt_sub {l : List Nd} (ht : Txt l) {i : Nat} (hi : i < l.length) : Txt (subL l i) := fun n hn => by
  unfold subL at hn
  obtain ⟨m, hm, rfl⟩ := List.mem_map.1 hn
  have hle := firstP_le l i
  obtain ⟨j, _, _, rfl⟩ := mem_seg (by omega) hm
  have := txt_at ht j
  have e : ∀ (k : Int) (n : Nd), (mvN k n).text = n.text := fun k n => by unfold mvN; (repeat' split) <;> rfl
  rw [e]; exact this
theorem few_Txt {l : List Nd} (h : fewB l = true) : Txt l := fun n hn => by have := (few_txt h).2 n hn; omega
def ni (i : Nat) : Int := (i : Int)
end Go.Proofs.Ytnjkljjeldnblaa
