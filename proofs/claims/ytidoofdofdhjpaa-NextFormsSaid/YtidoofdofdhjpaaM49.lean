/- Ends: walked. -/
import Derived.Test.YtidoofdofdhjpaaM48
import Derived.Test.YtidoofdofdhjpaaM15
namespace Go.Proofs.Ytidoofdofdhjpaa
open Go Go.RowKit
set_option linter.unusedVariables false
set_option linter.unusedSimpArgs false
set_option maxRecDepth 100000
set_option maxHeartbeats 16000000

/-- How often the first one is without items. -/
def frstB : Brs → Nat
  | [] => 0
  | a :: _ => if a.1 = [] then a.2 else 0
/-- The branch without items is the first one, if any. -/
theorem nil_first {L : Brs} (h : HdSrt L) : mnyB L [] = frstB L := by
  unfold frstB
  cases L with
  | nil => rfl
  | cons a L =>
    obtain ⟨s, k⟩ := a
    unfold mnyB
    by_cases e : s = []
    · subst e; simp
    · have : ¬ ([] : List Itm) = s := fun q => e q.symm
      rw [if_neg this]
      simp only [e, if_false]
      have h1 := (List.pairwise_cons.1 h).1
      clear h
      induction L with
      | nil => rfl
      | cons b L ih =>
        obtain ⟨t, m⟩ := b
        unfold mnyB
        have h2 : stC s t = -1 := h1 (t, m) (List.mem_cons_self ..)
        have : ¬ ([] : List Itm) = t := fun q => by
          subst q
          cases s with
          | nil => exact e rfl
          | cons x r =>
            have h3 := stC_len2 (a := x :: r) (b := []) (by simp)
            omega
        rw [if_neg this]
        exact ih fun a ha => h1 a (List.mem_cons_of_mem _ ha)
theorem nxEnds_any (l : List Nd) (A : Option Addr) (c : Nat) (s : List Itm) (B : Option Addr) (c2 : Nat) (hR : Rgt l) (hlen : l.length ≤ 300) (htx : Txt l) (hs : ∀ y ∈ s, HdF l y) (hsl : s.length ≤ 200) (w : World) (hrow : NRow w A l) (hss : ItRow w B s) :
    Calls Try.prog 22 #[.agg #[.slice A l.length c], .slice B s.length c2] w (Ans w (.int .i64 ((mnyB (hdsL l s) [] : Nat) : Int))) := by
  have hb1 := (Below.refl w.heap.size w).alloc (Nat.le_refl _) (.cells #[.slice A l.length c] 24)
  have HBX := Lib.hid (Blk.new w #[.slice A l.length c] 24)
  have HB1 := Lib.hid hb1
  have HH := Lib.hid (hdHeads_any l A c s B c2 hR hlen htx hs hsl (w.alloc (.cells #[.slice A l.length c] 24)) (hrow.later hb1) (hss.later hb1))
  have HSR : Hid (HdSrt (hdsL l s)) := hds_srt l s
  obtain ⟨z, hz⟩ : ∃ z, mnyB (hdsL l s) [] = z := ⟨_, rfl⟩
  have HZZ := Lib.hid hz
  rw [hz]
  clear hb1 hrow hss hs htx hz
  go_enter Try.func22, Try.ntmps22
  go_upto_region 1 with (fail)
  generalize w.alloc (.cells #[.slice A l.length c] 24) = w1 at *
  have e0 := HBX.out.cell 0
  simp at e0
  go_wp2_with fail
  refine HH.out.mono ?_; rintro e w3 ⟨vD, D, rfl, hbr, hoD, hoE, hb3, -⟩
  obtain ⟨AD, cD, rfl, -, hrD⟩ := hoD.row
  have HB3 := Lib.hid (HB1.out.trans (hb3.mono HB1.out.size))
  have HRD := Lib.hid hrD
  have HZ : Hid (z = frstB (D.map brS)) := by
    have h1 : HdSrt (D.map brS) := by rw [hbr]; exact HSR.out
    have h2 := nil_first h1
    exact HZZ.out.symm.trans ((congrArg (fun L => mnyB L []) hbr.symm).trans h2)
  clear hbr hoD hoE hb3 hrD HH HSR HZZ HB1 HBX
  cases D with
  | nil =>
    have HZ0 : Hid (z = 0) := HZ.out
    simp only [List.length_nil]
    clear HZ
    go_wp2
    go_ret
    exact ⟨by rw [HZ0.out]; rfl, HB3.out⟩
  | cons b D =>
    obtain ⟨bd, od, hA, hbd, hcd⟩ := HRD.out 0 (by simp)
    subst hA
    have d0 : w3.cell? ⟨bd, od, none⟩ = some (.slice b.A b.s.length b.cap) := by have := hcd 0 (by decide); simpa [brC] using this
    have d1 : w3.cell? ⟨bd, od + 1, none⟩ = some (.int .i64 (b.many : Int)) := by have := hcd 1 (by decide); simpa [brC] using this
    obtain ⟨n, hn⟩ : ∃ n, (b :: D).length = n := ⟨_, rfl⟩
    have hn1 : 0 < n := by rw [← hn]; simp
    have hnz : (0 : Int) < (n : Int) := by omega
    have hng : decide ((n : Int) > 0) = true := by rw [decide_eq_true_iff]; omega
    have hng2 : (n : Int) > 0 := by omega
    rw [hn]
    clear hn hcd HRD hbd
    by_cases he : b.s = []
    · have HZ0 : Hid (z = b.many) := by
        unfold Hid; rw [HZ.out]
        show (if b.s = [] then b.many else 0) = _
        rw [if_pos he]
      have hbl : (((b.s.length : Nat) : Int) == 0) = true := by rw [he]; rfl
      have hbl2 : b.s.length = 0 := by rw [he]; rfl
      clear HZ he
      generalize b.s.length = m at *
      go_wp2
      go_ret
      exact ⟨by rw [HZ0.out]; rfl, HB3.out⟩
    · have HZ0 : Hid (z = 0) := by
        unfold Hid; rw [HZ.out]
        show (if b.s = [] then b.many else 0) = _
        rw [if_neg he]
      have hbl2 : ¬ b.s.length = 0 := fun q => he (List.length_eq_zero_iff.1 q)
      have hbl : (((b.s.length : Nat) : Int) == 0) = false := by rw [beq_eq_false_iff_ne]; omega
      have hbl3 : ¬ ((b.s.length : Nat) : Int) = 0 := by omega
      clear HZ he
      generalize b.s.length = m at *
      go_wp2
      go_ret
      exact ⟨by rw [HZ0.out]; rfl, HB3.out⟩
end Go.Proofs.Ytidoofdofdhjpaa
/- What the bytes of a state are told apart by: rows of classes appended; each byte's; an item's: walked. -/
namespace Go.Proofs.Ytidoofdofdhjpaa
open Go Go.RowKit
set_option linter.unusedVariables false
set_option linter.unusedSimpArgs false
set_option maxRecDepth 100000
set_option maxHeartbeats 16000000

theorem flat4_ones : ∀ (l : List (BitVec 256)) (u : Value), u ∈ flat4 l → u.oneCell' = true
  | [], u, h => by cases h
  | t :: l, u, h => by
    simp only [flat4, List.mem_cons] at h
    rcases h with rfl | rfl | rfl | rfl | h
    · rfl
    · rfl
    · rfl
    · rfl
    · exact flat4_ones l u h
theorem LRow.news {w : World} {b oo : Nat} {r : List (BitVec 256)} (hr : LRow w (some ⟨b, oo, none⟩) r) : ∀ (j : Nat) (u : Value), (flat4 r)[j]? = some u → w.cell? ((⟨b, oo, none⟩ : Addr).add j) = some u := by
  intro j u hu
  have hj : j < r.length * 4 := by rw [← flat4_length]; exact (List.getElem?_eq_some_iff.1 hu).1
  have hd : j / 4 < r.length := by omega
  obtain ⟨b', off, hA, _, hc⟩ := hr (j / 4) hd
  cases hA
  have h1 := hc (j % 4) (Nat.mod_lt _ (by decide))
  rw [← flat4_get r (j / 4) (j % 4) hd (Nat.mod_lt _ (by decide)), show j / 4 * 4 + j % 4 = j by omega, hu] at h1
  have hadd : (⟨b, oo, none⟩ : Addr).add j = ⟨b, oo + j, none⟩ := by unfold Addr.add; split <;> simp_all
  rw [hadd, ← h1]; congr 2; omega
theorem LRow.one {w : World} {b : Nat} {t : BitVec 256} (h : Blk w b (cells4 t) 35) : LRow w (some ⟨b, 0, none⟩) [t] := fun i hi => by
  have hi : i < 1 := hi
  obtain rfl : i = 0 := by omega
  refine ⟨b, 0, rfl, h.lt, fun j hj => ?_⟩
  rw [h.cell]
  rcases (by omega : j = 0 ∨ j = 1 ∨ j = 2 ∨ j = 3) with rfl | rfl | rfl | rfl <;> rfl
theorem cls_append_empty (w : World) (V : Option Addr) (n cap : Nat) (A : Option Addr) (c : Nat) (t : TypeId) (hn : n ≤ cap) (hV : V = none → n = 0 ∧ cap = 0) : (Builtin.append_ #[30, 30] t #[.slice V n cap, .slice A 0 c]).run Try.prog w = .ok (.slice V n cap) w := by
  obtain ⟨ib, hib, hz0, hz1, hz2⟩ := info_parts infoCls
  cases V with
  | none =>
    obtain ⟨rfl, rfl⟩ := hV rfl
    cases A with
    | none => simp [Builtin.append_, run_underlying Try.underlying30, sizeOf, typeInfo, hib, Builtin.lenOf, Builtin.firstCells, storeCells]
    | some x =>
      have hf := run_firstCells_some (P := Try.prog) w ib.size 0 x 0 c [] (by simp) (by simp)
      simp [Builtin.append_, run_underlying Try.underlying30, sizeOf, typeInfo, hib, Builtin.lenOf, hf, storeCells]
  | some y =>
    cases A with
    | none => simp [Builtin.append_, run_underlying Try.underlying30, sizeOf, typeInfo, hib, Builtin.lenOf, Builtin.firstCells, storeCells, hn]
    | some x =>
      have hf := run_firstCells_some (P := Try.prog) w ib.size 0 x 0 c [] (by simp) (by simp)
      simp [Builtin.append_, run_underlying Try.underlying30, sizeOf, typeInfo, hib, Builtin.lenOf, hf, storeCells, hn]
/-- An append of classes to a row that a call owns. -/
theorem wp_append_clsL {w : World} {o : Oper} {a : Act} {K : Act → World → Prop} {Q : Exit → Act → World → Prop} (s x : Operand)
    (ho : o.op = .call { callee := .builtin .append, args := #[s, x], argTypes := #[30, 30] })
    (base : Nat) (v : Value) (l : List (BitVec 256)) (hs : a.eval s = v) (hown : OwnC w base v l)
    (A : Option Addr) (c : Nat) (r : List (BitVec 256)) (hx : a.eval x = .slice A r.length c) (hr : LRow w A r) (hlen : l.length + r.length < 1073741824) (hbase : base ≤ w.heap.size)
    (h : ∀ v' w', OwnC w' base v' (l ++ r) → w.grownBy w' v.ownBlock → K (a.put o.dst v') w') : o.wp Try.prog a w K Q := by
  by_cases hne : 0 < r.length
  · obtain ⟨b, off, rfl, -, -⟩ := hr 0 hne
    obtain ⟨ib, hib, hz0, hz1, hz2⟩ := info_parts infoCls
    obtain ⟨v', w', hrun, h2, h3, _⟩ := run_append_own (P := Try.prog) w base 30 o.type 35 ib _ 4 32 Try.underlying30 hib hz0 hz1 hz2 rfl (by decide) v l.length (flat4 l) hown ⟨b, off, none⟩ r.length c (flat4 r) (by rw [flat4_length]) hr.news (flat4_ones r) (by unfold maxLen; omega) (by omega) hbase
    unfold Oper.wp execOp
    simp only [ho, resolve, invoke, builtin, Sem.run_bind, Sem.run_pure, Result.andThen_ok, List.map_toArray, List.map_cons, List.map_nil, hs, hx, hrun]
    exact h v' w' (by unfold OwnC; rw [List.length_append, flat4_append]; exact h2) h3
  · have hl : r = [] := List.length_eq_zero_iff.1 (by omega)
    subst hl
    have hrun : (Builtin.append_ #[30, 30] o.type #[v, .slice A 0 c]).run Try.prog w = .ok v w := by
      obtain ⟨_, ⟨hv, hn⟩ | ⟨g, cap, cur, hv, hb, hg, hc, hm, hs2, ht⟩⟩ := hown
      · rw [hv]; exact cls_append_empty w none 0 0 A c o.type (Nat.le_refl _) (fun _ => ⟨rfl, rfl⟩)
      · rw [hv]; exact cls_append_empty w _ _ _ A c o.type hc (fun e => by cases e)
    unfold Oper.wp execOp
    simp only [ho, resolve, invoke, builtin, Sem.run_bind, Sem.run_pure, Result.andThen_ok, List.map_toArray, List.map_cons, List.map_nil, hs, hx, List.length_nil, hrun]
    exact h v w (by rw [List.append_nil]; exact hown) (World.grownBy.refl _ _)
theorem wpList_append_clsL {w : World} {ops : Array Oper} {rest : List Oper} {o : Oper} {a : Act} {Q : Exit → Act → World → Prop} (hgd : o.guard = none) (s x : Operand)
    (ho : o.op = .call { callee := .builtin .append, args := #[s, x], argTypes := #[30, 30] })
    (base : Nat) (v : Value) (l : List (BitVec 256)) (hs : a.eval s = v) (hown : OwnC w base v l)
    (A : Option Addr) (c : Nat) (r : List (BitVec 256)) (hx : a.eval x = .slice A r.length c) (hr : LRow w A r) (hlen : l.length + r.length < 1073741824) (hbase : base ≤ w.heap.size)
    (h : ∀ v' w', OwnC w' base v' (l ++ r) → w.grownBy w' v.ownBlock → wpList Try.prog ops Q rest (a.put o.dst v') w') : wpList Try.prog ops Q (o :: rest) a w :=
  wpList_plain hgd fun K hK => wp_append_clsL s x ho base v l hs hown A c r hx hr hlen hbase fun v' w' h1 h2 => hK _ _ (h v' w' h1 h2)
theorem wpList_make_clsL {w : World} {ops : Array Oper} {rest : List Oper} {o : Oper} {a : Act} {Q : Exit → Act → World → Prop} (hgd : o.guard = none) (l c : Operand) (hop : o.op = Op.makeSlice 30 l c)
    (C : Int) (n : Nat) (hl : a.eval l = .int .i64 0) (hc : a.eval c = .int .i64 C) (hC : C = (n : Int)) (hn : n ≤ 1073741824)
    (hK : ∀ w', OwnC w' w.heap.size (.slice (some ⟨w.heap.size, 0, none⟩) 0 n) [] → Below w.heap.size w w' → wpList Try.prog ops Q rest (a.put o.dst (.slice (some ⟨w.heap.size, 0, none⟩) 0 n)) w') : wpList Try.prog ops Q (o :: rest) a w := by
  obtain ⟨ib, hib, hz0, hz1, hz2⟩ := info_parts infoCls
  exact wpList_make_own w hgd l c 30 hop w.heap.size 35 ib _ 4 Try.underlying30 hib hz0 hz1 .i64 .i64 C n hl hc hC (by rw [hz2]; omega) (by unfold maxLen; omega) (Nat.le_refl _)
    fun w' h1 h2 => hK w' h1 ⟨h2.os, h2.tape, h2.output, h2.size, fun k hk => h2.block k hk (by simp)⟩
/-- A byte's class. -/
theorem sg_row : ∀ n, n < 256 → rowB n n = sgC (UInt8.ofNat n) := by decide +kernel
/-- All bytes' classes. -/
def eachC (k : Nat) : List (BitVec 256) := (List.range k).map fun b => sgC (UInt8.ofNat b)
theorem each_succ (k : Nat) : eachC (k + 1) = eachC k ++ [sgC (UInt8.ofNat k)] := by unfold eachC; rw [List.range_succ, List.map_append]; rfl
theorem each_len (k : Nat) : (eachC k).length = k := by unfold eachC; simp
structure NeS (w0 : World) (k : Nat) (v : Value) (w : World) : Prop where
  bel : Below w0.heap.size w0 w
  own : OwnC w w0.heap.size v (eachC k)
def NeL (w0 : World) (v i : Value) (w : World) : Prop := ∃ k : Nat, k ≤ 256 ∧ i = .int .i64 (k : Int) ∧ NeS w0 k v w
theorem NeS.push {w0 w w' : World} {k : Nat} {v v' : Value} (h : NeS w0 k v w) (h1 : OwnC w' w0.heap.size v' (eachC k ++ [sgC (UInt8.ofNat k)])) (hg : w.grownBy w' v.ownBlock) : NeS w0 (k + 1) v' w' :=
  ⟨h.bel.grown hg h.bel.size (fun q hq => (World.ownsRow.lt h.own q hq).1), by rw [each_succ]; exact h1⟩
theorem NeS.later {w0 w w' : World} {k : Nat} {v : Value} (h : NeS w0 k v w) (hb : Below w.heap.size w w') : NeS w0 k v w' := ⟨h.bel.trans (hb.mono h.bel.size), h.own.later hb⟩
def ClsP (L : List (BitVec 256)) (w : World) (e : Ending) (w' : World) : Prop := ∃ v, e = .returned v ∧ OwnC w' w.heap.size v L ∧ Below w.heap.size w w'
theorem nxEach_any (w : World) : Calls Try.prog 50 #[] w (ClsP (eachC 256) w) := by
  go_enter Try.func50, Try.ntmps50
  go_upto_region 2 with (refine wpList_make_clsL rfl _ _ rfl 256 256 rfl rfl rfl (by omega) ?_; intro w1 ho1 hb1; have HO1 := Lib.hid ho1; have HB1 := Lib.hid hb1; clear ho1 hb1)
  have HS0 : Hid (NeS w 0 (.slice (some ⟨w.heap.size, 0, none⟩) 0 256) w1) := ⟨HB1.out, HO1.out⟩
  clear HO1 HB1
  go_wp2
  go_loopw [1, 4] (NeL w) (fun _ i _ => 256 - (intOf i).toNat)
  case atStart => exact ⟨0, by omega, rfl, HS0.out⟩
  case round =>
    obtain ⟨k, hk, rfl, hs⟩ := hrel
    have HS := Lib.hid hs
    clear hs HS0
    by_cases hlt : k < 256
    · have hltz : (k : Int) < 256 := by omega
      have hkm : (k : Int) % 256 = (k : Int) := by omega
      have HOF := Lib.hid (of_any k k hlt hlt wr)
      rw [sg_row k hlt] at HOF
      go_wp2_with fail
      refine HOF.out.mono ?_; rintro e w2 ⟨rfl, hb2⟩
      have HS2 := Lib.hid (HS.out.later hb2)
      unfold cls
      have hb3 := (Below.refl w2.heap.size w2).alloc (Nat.le_refl _) (.cells (cells4 (sgC (UInt8.ofNat k))) 35)
      have HS3 := Lib.hid (HS2.out.later hb3)
      have HX3 := Lib.hid (Blk.new w2 (cells4 (sgC (UInt8.ofNat k))) 35)
      have HEL : Hid ((eachC k).length + [sgC (UInt8.ofNat k)].length < 1073741824) := by unfold Hid; rw [each_len]; simp; omega
      clear hb2 hb3 HOF
      generalize hsg : sgC (UInt8.ofNat k) = S at *
      have HSG := Lib.hid hsg
      clear hsg
      unfold cells4 at HS3 HX3
      go_wp2_with (at_builtin; refine wpList_append_clsL rfl _ _ rfl w.heap.size _ (eachC k) rfl HS3.out.own (some ⟨w2.heap.size, 0, none⟩) 1 [S] rfl (LRow.one HX3.out) HEL.out HS3.out.bel.size ?_; intro v7 w7 h7 hg7; have HNX : Hid (NeS w (k + 1) v7 w7) := NeS.push HS3.out (by rw [HSG.out]; exact h7) hg7; clear h7 hg7)
      go_roundw
      case rel => exact ⟨k + 1, hlt, by go_num, HNX.out⟩
      case measure => simp [intOf]; omega
    · obtain rfl : k = 256 := by omega
      go_wp2
      go_ret
      exact ⟨_, rfl, HS.out.own, HS.out.bel⟩
end Go.Proofs.Ytidoofdofdhjpaa
/- What a ready item's bytes are told apart by: walked. -/
namespace Go.Proofs.Ytidoofdofdhjpaa
open Go Go.RowKit
set_option linter.unusedVariables false
set_option linter.unusedSimpArgs false
set_option maxRecDepth 100000
set_option maxHeartbeats 16000000

/-- A row of classes answered. -/
def NxRwP (L : List (BitVec 256)) (w : World) (e : Ending) (w' : World) : Prop := ∃ v, e = .returned v ∧ IsRow L v w' ∧ Below w.heap.size w w'
theorem clT_k3 {l : List Nd} {x : Itm} {r : List Itm} (h : x.kind = 3) : clT l (x :: r) = [sgC ((atN l x.node.toNat).text.getD x.lo.toNat 0)] := by
  unfold clT; simp only; rw [if_pos h]
theorem clT_k2 {l : List Nd} {x : Itm} {r : List Itm} (h : x.kind = 1) (h2 : (atN l x.node.toNat).kind = 2) : clT l (x :: r) = [(atN l x.node.toNat).cls] := by
  unfold clT; simp only; rw [if_neg (by omega), if_pos ⟨h, h2⟩]
theorem clT_each {l : List Nd} {x : Itm} {r : List Itm} (h : x.kind ≠ 3) (h2 : ¬ (x.kind = 1 ∧ (atN l x.node.toNat).kind = 2)) : clT l (x :: r) = eachC 256 := by
  unfold clT; simp only; rw [if_neg h, if_neg h2]; rfl
theorem sg_self (u : UInt8) : rowB u.toNat u.toNat = sgC u := by
  rw [sg_row u.toNat u.toNat_lt]; congr 1; simp
/-- The three boxes. -/
structure NxcS (w0 : World) (A : Option Addr) (l : List Nd) (c : Nat) (x : Itm) (n : Nd) (bn : Nat) (w : World) : Prop where
  bel : Below w0.heap.size w0 w
  bx : Blk w (w0.heap.size + 1) (itV x) 44
  bn : Blk w bn (ndC n) 58
theorem NxcS.later {w0 w w' : World} {A : Option Addr} {l : List Nd} {c : Nat} {x : Itm} {n : Nd} {bn : Nat} (h : NxcS w0 A l c x n bn w) (hb : Below w.heap.size w w') : NxcS w0 A l c x n bn w' :=
  ⟨h.bel.trans (hb.mono h.bel.size), h.bx.later hb, h.bn.later hb⟩
theorem nxCo_any (l : List Nd) (A : Option Addr) (c : Nat) (x : Itm) (h0 : 0 < l.length) (hlen : l.length ≤ 1073741824) (htx : Txt l) (hx : HdF l x) (hrd : rdyS l [x] = true) (w : World) (hrow : NRow w A l) :
    Calls Try.prog 31 #[.agg #[.slice A l.length c], .agg (itV x)] w (NxRwP (clT l [x]) w) := by
  obtain ⟨i, hil, hin⟩ := hx.inl h0
  have hti : (atN l i).text.length ≤ 281474976710656 := htx _ (by
    unfold atN; rw [List.getD_eq_getElem?_getD, List.getElem?_eq_getElem hil]; exact List.getElem_mem _)
  obtain ⟨L, hL⟩ : ∃ L, clT l [x] = L := ⟨_, rfl⟩
  have HL := Lib.hid hL
  rw [hL]
  have H3 : Hid (x.kind = 3 → 0 ≤ x.lo ∧ x.lo < ((atN l i).text.length : Int) ∧ L = [sgC ((atN l i).text.getD x.lo.toNat 0)]) := fun h => by
    obtain ⟨-, -, q3, q4⟩ := hx.three h
    rw [hin, Int.toNat_natCast] at q4
    refine ⟨q3, q4, ?_⟩
    rw [← hL, clT_k3 h, hin, Int.toNat_natCast]
  have H2 : Hid (x.kind = 1 → (atN l i).kind = 2 → L = [(atN l i).cls]) := fun h h2 => by
    rw [← hL, clT_k2 h (by rw [hin, Int.toNat_natCast]; exact h2), hin, Int.toNat_natCast]
  have HE0 : Hid (x.kind ≠ 3 → ¬ (x.kind = 1 ∧ (atN l i).kind = 2) → L = eachC 256) := fun h h2 => by
    rw [← hL, clT_each h (by rw [hin, Int.toNat_natCast]; exact h2)]
  have HS := Lib.hid (HfS.new c x hrow)
  have HN := Lib.hid (fun (w' : World) (h : NRow w' A l) => nxNode_any l A c x i hil hin hlen w' h)
  have HTB : Hid (∀ w', 0 ≤ x.lo → x.lo < ((atN l i).text.length : Int) → Calls Try.prog 48 #[.agg (ndC (atN l i)), .agg (itV x)] w' (Ans w' (.tuple #[.int .u8 (((atN l i).text.getD x.lo.toNat 0).toNat : Int), .bool true]))) := fun w' h1 h2 => nxByte_any (atN l i) x h1 h2 w'
  clear hL hrow hx hrd htx hin
  generalize atN l i = n at *
  obtain ⟨kk, nn, lo, hi⟩ := x
  simp only at H3 H2 HE0 HTB
  go_enter Try.func31, Try.ntmps31
  go_upto_region 1 with (fail)
  unfold itV at HS HN HTB ⊢
  simp only at HS HN HTB ⊢
  generalize (w.alloc (.cells #[.slice A l.length c] 24)).alloc (.cells #[.int .i64 kk, .int .i64 nn, .int .i64 lo, .int .i64 hi] 44) = w1 at HS ⊢
  have x0 := HS.out.it.cell 0
  have x1 := HS.out.it.cell 1
  have x2 := HS.out.it.cell 2
  have x3 := HS.out.it.cell 3
  have e0 := HS.out.s.box.cell 0
  simp [itV] at x0 x1 x2 x3 e0
  go_wp2_with fail
  refine (HN.out _ HS.out.s.row).mono ?_; rintro e w2 ⟨rfl, hb2⟩
  have HB2 := Lib.hid (HS.out.s.bel.trans (hb2.mono HS.out.s.bel.size))
  have HX2 := Lib.hid (HS.out.it.later hb2)
  have hb3 := (Below.refl w2.heap.size w2).alloc (Nat.le_refl _) (.cells (ndC n) 58)
  have HS4 : Hid (NxcS w A l c ⟨kk, nn, lo, hi⟩ n w2.heap.size (w2.alloc (.cells (ndC n) 58))) := ⟨HB2.out.trans (hb3.mono HB2.out.size), HX2.out.later hb3, Blk.new _ _ _⟩
  clear hb2 hb3 x0 x1 x2 x3 e0 HN HB2 HX2 HS
  obtain ⟨nk, na, nb, nlo, nhi, ncls, ntext⟩ := n
  simp only at H3 H2 HE0 HTB
  unfold ndC at HTB HS4 ⊢
  simp only at HTB HS4 ⊢
  go_upto_region 2 with (fail)
  generalize w2.alloc (.cells #[.int .i64 nk, .int .i64 na, .int .i64 nb, .int .i64 nlo, .int .i64 nhi, .int .u64 (wd ncls 0), .int .u64 (wd ncls 1), .int .u64 (wd ncls 2), .int .u64 (wd ncls 3), .string (bs ntext)] 58) = w4 at *
  generalize w2.heap.size = bn at *
  have gg := HS4.out.bn
  obtain ⟨g0, g1, g2, g3, g4, g5, g6, g7, g8, g9⟩ := ten_cells gg
  have hit := HS4.out.bx
  unfold itV at hit
  simp only at hit
  have x0 := hit.cell 0
  have x1 := hit.cell 1
  have x2 := hit.cell 2
  have x3 := hit.cell 3
  simp at x0 x1 x2 x3
  clear gg hit
  by_cases h3 : kk = 3
  · obtain ⟨q1, q2, q3⟩ := H3.out h3
    have HCL := Lib.hid q3
    have HTT := Lib.hid (HTB.out w4 q1 q2)
    clear q1 q2 q3 H3 H2 HE0 HTB
    subst h3
    generalize ntext.getD lo.toNat 0 = u at *
    have HOF := Lib.hid (fun w => of_any u.toNat u.toNat u.toNat_lt u.toNat_lt w)
    rw [sg_self u] at HOF
    generalize bs ntext = T at *
    go_wp2_with fail
    refine HTT.out.mono ?_; rintro e w5 ⟨rfl, hb5⟩
    have HB5 := Lib.hid (HS4.out.bel.trans (hb5.mono HS4.out.bel.size))
    clear hb5 HTT HS4 g0 g1 g2 g3 g4 g5 g6 g7 g8 g9 x0 x1 x2 x3
    go_wp2_with fail
    refine (HOF.out _).mono ?_; rintro e w6 ⟨rfl, hb6⟩
    have HB6 := Lib.hid (HB5.out.trans (hb6.mono HB5.out.size))
    unfold cls
    have hb7 := (Below.refl w6.heap.size w6).alloc (Nat.le_refl _) (.cells (cells4 (sgC u)) 35)
    have HX7 := Lib.hid (Blk.new w6 (cells4 (sgC u)) 35)
    have HB7 := Lib.hid (HB6.out.trans (hb7.mono HB6.out.size))
    clear hb6 hb7 HOF HB5 HB6
    go_wp2
    go_ret
    exact ⟨_, rfl, by rw [HCL.out]; exact ⟨_, _, rfl, LRow.one HX7.out⟩, HB7.out⟩
  · have h3z : (kk == 3) = false := by rw [beq_eq_false_iff_ne]; exact h3
    have HE := Lib.hid (nxEach_any w4)
    by_cases h1 : kk = 1
    · by_cases hk : nk = 2
      · have HCL := Lib.hid (H2.out h1 hk)
        clear H3 H2 HE0 HTB h3 HE
        subst h1
        subst hk
        have hb7 := (Below.refl w4.heap.size w4).alloc (Nat.le_refl _) (.cells (cells4 ncls) 35)
        have HX7 := Lib.hid (Blk.new w4 (cells4 ncls) 35)
        have HB7 := Lib.hid (HS4.out.bel.trans (hb7.mono HS4.out.bel.size))
        clear hb7
        unfold cells4 at HX7 HB7
        go_wp2
        go_ret
        exact ⟨_, rfl, by rw [HCL.out]; exact ⟨_, _, rfl, LRow.one HX7.out⟩, HB7.out⟩
      · have HCL := Lib.hid (HE0.out h3 (fun h => hk h.2))
        have hkz : (nk == 2) = false := by rw [beq_eq_false_iff_ne]; exact hk
        clear H3 H2 HE0 HTB h3
        subst h1
        go_wp2_with fail
        refine HE.out.mono ?_; rintro e w9 ⟨v9, rfl, ho9, hb9⟩
        have HO9 := Lib.hid ho9.isRow
        have HB9 := Lib.hid (HS4.out.bel.trans (hb9.mono HS4.out.bel.size))
        clear ho9 hb9 HE
        go_wp2
        go_ret
        exact ⟨_, rfl, by rw [HCL.out]; exact HO9.out, HB9.out⟩
    · have HCL := Lib.hid (HE0.out h3 (fun h => h1 h.1))
      have h1z : (kk == 1) = false := by rw [beq_eq_false_iff_ne]; exact h1
      clear H3 H2 HE0 HTB
      go_wp2_with fail
      refine HE.out.mono ?_; rintro e w9 ⟨v9, rfl, ho9, hb9⟩
      have HO9 := Lib.hid ho9.isRow
      have HB9 := Lib.hid (HS4.out.bel.trans (hb9.mono HS4.out.bel.size))
      clear ho9 hb9 HE
      go_wp2
      go_ret
      exact ⟨_, rfl, by rw [HCL.out]; exact HO9.out, HB9.out⟩
end Go.Proofs.Ytidoofdofdhjpaa
/- Classes: walked. -/
namespace Go.Proofs.Ytidoofdofdhjpaa
open Go Go.RowKit
set_option linter.unusedVariables false
set_option linter.unusedSimpArgs false
set_option maxRecDepth 100000
set_option maxHeartbeats 16000000

/-- What the heads' bytes are told apart by. -/
def hcL (l : List Nd) (L : Brs) : List (BitVec 256) := L.flatMap fun a => clT l a.1
theorem clT_len {l : List Nd} (s : List Itm) : (clT l s).length ≤ 256 := by
  cases s with
  | nil => unfold clT; simp
  | cons x r =>
    unfold clT
    simp only
    split
    · simp
    · split
      · simp
      · simp
theorem hc_len {l : List Nd} : ∀ L : Brs, (hcL l L).length ≤ L.length * 256
  | [] => Nat.zero_le _
  | a :: L => by
    have h1 := hc_len (l := l) L
    have h2 := clT_len (l := l) a.1
    unfold hcL at *
    rw [List.flatMap_cons, List.length_append, List.length_cons]; omega
theorem hc_app {l : List Nd} (L : Brs) (a : List Itm × Nat) : hcL l (L ++ [a]) = hcL l L ++ clT l a.1 := by unfold hcL; rw [List.flatMap_append]; simp
theorem ownC_lower {w : World} {base base' : Nat} {v : Value} {l : List (BitVec 256)} (h : OwnC w base v l) (hb : base' ≤ base) : OwnC w base' v l := by
  obtain ⟨h0, ⟨hv, hn⟩ | ⟨g, cap, cur, hv, hg, hr⟩⟩ := h
  · exact ⟨h0, .inl ⟨hv, hn⟩⟩
  · exact ⟨h0, .inr ⟨g, cap, cur, hv, Nat.le_trans hb hg, hr⟩⟩
structure NclS (w3 : World) (l : List Nd) (D : List HdE) (k : Nat) (v : Value) (w : World) : Prop where
  bel : Below w3.heap.size w3 w
  own : OwnC w w3.heap.size v (hcL l ((D.take k).map brS))
def NclL (w3 : World) (l : List Nd) (D : List HdE) (v i : Value) (w : World) : Prop := ∃ k : Nat, k ≤ D.length ∧ i = .int .i64 (k : Int) ∧ NclS w3 l D k v w
theorem NclS.later {w3 w w' : World} {l : List Nd} {D : List HdE} {k : Nat} {v : Value} (h : NclS w3 l D k v w) (hb : Below w.heap.size w w') : NclS w3 l D k v w' := ⟨h.bel.trans (hb.mono h.bel.size), h.own.later hb⟩
/-- What stands in the loop. -/
structure NcB (w0 : World) (A : Option Addr) (l : List Nd) (c : Nat) (AD : Option Addr) (D : List HdE) (w : World) : Prop where
  bel : Below w0.heap.size w0 w
  row : NRow w A l
  box : Blk w w0.heap.size #[.slice A l.length c] 24
  hds : BrRow w AD D
  ent : ∀ d ∈ D, ItRow w d.A d.s
theorem NcB.later {w0 w w' : World} {A : Option Addr} {l : List Nd} {c : Nat} {AD : Option Addr} {D : List HdE} (h : NcB w0 A l c AD D w) (hb : Below w.heap.size w w') : NcB w0 A l c AD D w' :=
  ⟨h.bel.trans (hb.mono h.bel.size), h.row.later hb, h.box.later hb, h.hds.later hb, fun d hd => (h.ent d hd).later hb⟩
structure NcR (w0 : World) (A : Option Addr) (l : List Nd) (c : Nat) (AD : Option Addr) (D : List HdE) (w3 : World) (k : Nat) (v : Value) (bx : Nat) (b : HdE) (w : World) : Prop where
  nb : NcB w0 A l c AD D w
  s : NclS w3 l D k v w
  bx : Blk w bx (brC b) 41
  it : ItRow w b.A b.s
theorem NcR.later {w0 w w' : World} {A : Option Addr} {l : List Nd} {c : Nat} {AD : Option Addr} {D : List HdE} {w3 : World} {k : Nat} {v : Value} {bx : Nat} {b : HdE} (h : NcR w0 A l c AD D w3 k v bx b w) (hb : Below w.heap.size w w') : NcR w0 A l c AD D w3 k v bx b w' :=
  ⟨h.nb.later hb, h.s.later hb, h.bx.later hb, h.it.later hb⟩
theorem nxClasses_any (l : List Nd) (A : Option Addr) (c : Nat) (s : List Itm) (B : Option Addr) (c2 : Nat) (hR : Rgt l) (hlen : l.length ≤ 300) (htx : Txt l) (hs : ∀ y ∈ s, HdF l y) (hsl : s.length ≤ 200) (w : World) (hrow : NRow w A l) (hss : ItRow w B s) :
    Calls Try.prog 11 #[.agg #[.slice A l.length c], .slice B s.length c2] w (ClsP (hcL l (hdsL l s)) w) := by
  have hb1 := (Below.refl w.heap.size w).alloc (Nat.le_refl _) (.cells #[.slice A l.length c] 24)
  have HBX := Lib.hid (Blk.new w #[.slice A l.length c] 24)
  have HB1 := Lib.hid hb1
  have HH := Lib.hid (hdHeads_any l A c s B c2 hR hlen htx hs hsl (w.alloc (.cells #[.slice A l.length c] 24)) (hrow.later hb1) (hss.later hb1))
  have HRW := Lib.hid (hrow.later hb1)
  have HHF : Hid (∀ a ∈ hdsL l s, (∀ y ∈ a.1, HdF l y) ∧ rdyS l a.1 = true) := fun a ha => ⟨(hds_ok hR.1 hs ha).2.1, (hds_ok hR.1 hs ha).1⟩
  have HHL : Hid ((hdsL l s).length ≤ 200 * 300 + 1) := by
    have := hds_len hR hs
    have h2 : s.length * l.length ≤ 200 * 300 := Nat.mul_le_mul hsl hlen
    unfold Hid; omega
  have HCO : Hid (∀ (x : Itm), HdF l x → rdyS l [x] = true → ∀ w', NRow w' A l → Calls Try.prog 31 #[.agg #[.slice A l.length c], .agg (itV x)] w' (NxRwP (clT l [x]) w')) := fun x h1 h2 w' h3 => nxCo_any l A c x hR.1.1 (by omega) htx h1 h2 w' h3
  clear hb1 hrow hss hs htx
  obtain ⟨T, hT⟩ : ∃ T, hdsL l s = T := ⟨_, rfl⟩
  unfold HdsP at HH
  rw [hT] at HHF HHL HH ⊢
  clear hT
  go_enter Try.func11, Try.ntmps11
  go_upto_region 1 with (fail)
  generalize w.alloc (.cells #[.slice A l.length c] 24) = w1 at *
  have e0 := HBX.out.cell 0
  simp at e0
  go_wp2_with fail
  refine HH.out.mono ?_; rintro e w3 ⟨vD, D, rfl, hbr, hoD, hoE, hb3, -⟩
  obtain ⟨AD, cD, rfl, -, hrD⟩ := hoD.row
  have HB3 := Lib.hid (HB1.out.trans (hb3.mono HB1.out.size))
  have HNB : Hid (NcB w A l c AD D w3) := ⟨HB3.out, HRW.out.later hb3, HBX.out.later hb3, hrD, fun d hd => (own_it (hoE d hd)).2⟩
  subst hbr
  have HDF : Hid (∀ d ∈ D, (∀ y ∈ d.s, HdF l y) ∧ rdyS l d.s = true) := fun d hd => HHF.out (brS d) (List.mem_map_of_mem hd)
  have HDL : Hid (D.length ≤ 60001) := by have := HHL.out; rw [List.length_map] at this; exact this
  clear hoD hoE hb3 hrD e0 HHF HHL HB3 HRW HH HB1 HBX
  have HS0 : Hid (NclS w3 l D 0 (.slice none 0 0) w3) := ⟨Below.refl _ _, OwnC.nil _ _⟩
  have hdl : D.length ≤ 60001 := HDL.out
  go_wp2
  go_loopw [5, 12] (NclL w3 l D) (fun _ i _ => D.length - (intOf i).toNat)
  case atStart => exact ⟨0, Nat.zero_le _, rfl, HS0.out⟩
  case round =>
    obtain ⟨k, hk, rfl, hs⟩ := hrel
    have HS := Lib.hid hs
    clear hs HS0
    by_cases hlt : k < D.length
    · have hltz : (k : Int) < (D.length : Int) := by omega
      have HNR := Lib.hid (HNB.out.later HS.out.bel)
      obtain ⟨bd, od, hA, hbd, hcd⟩ := HNR.out.hds k hlt
      subst hA
      obtain ⟨b, hb⟩ : ∃ b, D.getD k hd0 = b := ⟨_, rfl⟩
      rw [hb] at hcd
      have hbm : b ∈ D := by rw [← hb, List.getD_eq_getElem?_getD, List.getElem?_eq_getElem hlt]; exact List.getElem_mem hlt
      have HBE : Hid (D[k]? = some b) := by rw [← hb, List.getD_eq_getElem?_getD, List.getElem?_eq_getElem hlt]; rfl
      have d0 : wr.cell? ⟨bd, od + k * 2, none⟩ = some (.slice b.A b.s.length b.cap) := hcd 0 (by decide)
      have d1 : wr.cell? ⟨bd, od + k * 2 + 1, none⟩ = some (.int .i64 (b.many : Int)) := hcd 1 (by decide)
      have hbA := (Below.refl wr.heap.size wr).alloc (Nat.le_refl _) (.cells (brC b) 41)
      have HTK : Hid (hcL l ((D.take (k + 1)).map brS) = hcL l ((D.take k).map brS) ++ clT l b.s) := by
        unfold Hid
        rw [List.take_add_one, HBE.out, List.map_append]; exact hc_app _ _
      have HF := Lib.hid (HDF.out b hbm)
      have HRR : Hid (NcR w A l c (some ⟨bd, od, none⟩) D w3 k u5 wr.heap.size b (wr.alloc (.cells (brC b) 41))) := ⟨HNR.out.later hbA, HS.out.later hbA, Blk.new _ _ _, (HNR.out.ent b hbm).later hbA⟩
      have HLK : Hid ((hcL l ((D.take k).map brS)).length + (clT l b.s).length < 1073741824) := by
        have h1 := hc_len (l := l) ((D.take k).map brS)
        have h2 := clT_len (l := l) b.s
        rw [List.length_map, List.length_take] at h1
        have h3 : (min k D.length) * 256 ≤ 60001 * 256 := Nat.mul_le_mul_right _ (by omega)
        unfold Hid; omega
      clear hb hbm hcd hbA HBE HNR
      go_upto_region 5 with (fail)
      clear d0 d1
      unfold brC at HRR
      generalize wr.alloc (.cells #[.slice b.A b.s.length b.cap, .int .i64 (b.many : Int)] 41) = wA at *
      generalize wr.heap.size = bx at *
      have b0 := HRR.out.bx.cell 0
      simp [brC] at b0
      by_cases hne : b.s = []
      · have hl0 : b.s.length = 0 := by rw [hne]; rfl
        have HNX : Hid (NclS w3 l D (k + 1) u5 wA) := ⟨HRR.out.s.bel, by rw [HTK.out, hne, show clT l [] = [] from rfl, List.append_nil]; exact HRR.out.s.own⟩
        rw [hl0] at b0
        clear hl0 hne HRR
        go_wp2
        go_roundw
        case rel => exact ⟨k + 1, hlt, by go_num, HNX.out⟩
        case measure => simp [intOf]; omega
      · obtain ⟨x, r, hx⟩ := List.exists_cons_of_ne_nil hne
        have hfx : HdF l x := HF.out.1 x (by rw [hx]; exact List.mem_cons_self ..)
        have hrx : rdyS l [x] = true := by have := HF.out.2; rw [hx] at this; simpa [rdyS] using this
        have HCC := Lib.hid (fun w' h => HCO.out x hfx hrx w' h)
        have hct : clT l b.s = clT l [x] := by rw [hx]; rfl
        rw [hct] at HTK HLK
        obtain ⟨bb, ob, hbA, -, -⟩ := HRR.out.it 0 (by rw [hx]; simp)
        have HAT : Hid (∀ w', ItRow w' b.A b.s → At4 w' bb ob x) := fun w' h => by
          have h1 := h.at (i := 0) (by rw [hx]; simp) hbA
          rw [hx] at h1
          simpa using h1
        obtain ⟨n, hn⟩ : ∃ n, b.s.length = n := ⟨_, rfl⟩
        have hn0 : 0 < n := by rw [← hn, hx]; simp
        have hnz : (0 : Int) < (n : Int) := by omega
        have hng : decide ((n : Int) > 0) = true := by rw [decide_eq_true_iff]; omega
        have hng2 : (n : Int) > 0 := by omega
        rw [hn, hbA] at b0
        have HB0 : Hid (∀ w', Blk w' bx (brC b) 41 → w'.cell? ⟨bx, 0, none⟩ = some (.slice (some ⟨bb, ob, none⟩) n b.cap)) := fun w' h => by
          have := h.cell 0
          rw [this]; unfold brC; rw [hn, hbA]; rfl
        unfold itV at HCC
        unfold At4 at HAT
        obtain ⟨kk, nn, lo, hi⟩ := x
        simp only at HCC HAT
        generalize clT l [⟨kk, nn, lo, hi⟩] = R at *
        generalize hcu : hcL l ((D.take k).map brS) = cur at *
        have HCU := Lib.hid hcu
        clear hcu
        clear hfx hrx hct hbA hn hx hne HF
        go_upto_region 6 with (fail)
        clear b0
        refine wp_region_stable_two (S := (NcR w A l c (some ⟨bd, od, none⟩) D w3 k u5 bx b)) (hSt := fun _ _ h hb => h.later hb) (plan := [[(5, none)], [(2, none)], [(7, none)], [(22, some 2)], [(23, some 3)], [(24, some 4)], [(21, some 1), (25, some 5)]]) rfl rfl (by kernel_rfl) (by kernel_rfl) (by kernel_rfl) (by kernel_rfl) ?hS ?_
        rotate_left
        simp only [List.dropLast]
        iterate 6 first
          | (refine chain_skip (by rfl) (by rfl) ?_)
          | (apply chain_want (by rfl)
             · intro act wx hS hr
               simp at hr
               have e0 := hS.nb.box.cell 0
               simp at e0
               have b0 := HB0.out _ hS.bx
               obtain ⟨x0, x1, x2, x3⟩ := HAT.out _ hS.it
               go_simp
               (try go_ints)
               first
                 | exact Done.same (v := .agg #[.int .i64 kk, .int .i64 nn, .int .i64 lo, .int .i64 hi])
                 | exact Done.same
            )
        (refine chain_rel (IsRow R) (IsRow.later R) (by rfl) ?_ ?_
         · intro act wx hS hr
           simp at hr
           have e0 := hS.nb.box.cell 0
           simp at e0
           have b0 := HB0.out _ hS.bx
           obtain ⟨x0, x1, x2, x3⟩ := HAT.out _ hS.it
           all_goals go_simp
           ((refine (HCC.out _ hS.nb.row).mono ?_); rintro e w' ⟨v9, rfl, hv, hb⟩; exact Done.rel (p := IsRow R) hb hv)
        )
        show ∀ w', _ → _
        intro wz hz
        simp [Act.put]
        case hS => exact HRR.out
        intro v6 hv6
        obtain ⟨A6, c6, rfl, hr6⟩ := hv6
        have ho6 := hz.s.own
        rw [HCU.out] at ho6
        refine wp_append_clsL _ _ rfl w3.heap.size u5 cur rfl ho6 A6 c6 R rfl hr6 HLK.out hz.s.bel.size ?_
        intro v7 w7 q1 q2
        have HNX : Hid (NclS w3 l D (k + 1) v7 w7) := ⟨hz.s.bel.grown q2 hz.s.bel.size (fun q hq => (World.ownsRow.lt hz.s.own q hq).1), by rw [HTK.out]; exact q1⟩
        clear q1 q2 hz ho6 hr6 HRR
        go_simp
        go_wp2
        go_roundw
        case rel => exact ⟨k + 1, hlt, by go_num, HNX.out⟩
        case measure => simp [intOf]; omega
    · obtain rfl : k = D.length := by omega
      have hltz : ¬ ((D.length : Nat) : Int) < (D.length : Int) := by omega
      have HP : Hid (ClsP (hcL l (D.map brS)) w (.returned u5) wr) := by
        refine ⟨u5, rfl, ?_, HNB.out.bel.trans (HS.out.bel.mono HNB.out.bel.size)⟩
        have h1 := HS.out.own
        rw [List.take_length] at h1
        exact ownC_lower h1 HNB.out.bel.size
      clear HS hlt
      go_wp2
      go_ret
      exact HP.out
end Go.Proofs.Ytidoofdofdhjpaa
