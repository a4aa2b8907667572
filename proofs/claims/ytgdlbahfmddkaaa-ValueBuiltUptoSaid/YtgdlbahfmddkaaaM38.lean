/- What is still to be looked at: rows of lists of values, and of pairs of them, that a call owns. -/
import Derived.Test.YtgdlbahfmddkaaaM34
import Derived.Test.YtgdlbahfmddkaaaM20
import Derived.Test.YtgdlbahfmddkaaaM21
import Derived.Test.YtgdlbahfmddkaaaM31
namespace Go.Proofs.Ytgdlbahfmddkaaa
open Go Go.RowKit
set_option linter.unusedVariables false
set_option linter.unusedSimpArgs false

/-- A list of values, and where it stands. -/
structure KR where
  s : Vs
  A : Option Addr
  c : Nat
def kr0 : KR := ⟨.nil, none, 0⟩
def KR.cell (k : KR) : Value := .slice k.A k.s.len k.c
def KR.ok (w : World) (k : KR) : Prop := k.s.len ≤ k.c ∧ VRow w k.A 0 k.s
theorem KR.ok.later {w w' : World} {k : KR} (h : k.ok w) (hb : Below w.heap.size w w') : k.ok w' := ⟨h.1, h.2.later hb⟩
section
variable {P : Program}
/-- Where a row stands that was appended to. -/
theorem run_append_place (w : World) (base : Nat) (t ty e : TypeId) (i : TypeInfo) (z : Value) (size bytes : Nat) (ht : P.underlying t = some (.slice e)) (hi : P.info? e = some i) (hz : i.zero = some z)
    (hsize : i.size = size) (hby : i.bytes = bytes) (hzs : z.cells.size = size) (hsz : 0 < size)
    (v : Value) (n : Nat) (xs : List Value) (hown : w.ownsRow base e size v n xs)
    (a : Addr) (m c : Nat) (news : List Value) (hl : news.length = m * size) (hnews : ∀ j u, news[j]? = some u → w.cell? (a.add j) = some u) (h1 : ∀ u ∈ news, u.oneCell' = true) (hm : 0 < m)
    (h63 : n + m ≤ maxLen) (hbytes : (n + m) * bytes ≤ 140737488355328) (hbase : base ≤ w.heap.size) :
    ∃ v' w', (Builtin.append_ #[t, t] ty #[v, .slice (some a) m c]).run P w = .ok v' w' ∧ w'.ownsRow base e size v' (n + m) (xs ++ news) ∧ w.grownBy w' v.ownBlock ∧
      (v'.ownBlock = v.ownBlock ∨ ∃ g', v'.ownBlock = some g' ∧ w.heap.size ≤ g') := by
  obtain ⟨v', w', hr, h2, h3, _⟩ := run_append_own (P := P) w base t ty e i z size bytes ht hi hz hsize hby hzs hsz v n xs hown a m c news hl hnews h1 h63 hbytes hbase
  refine ⟨v', w', hr, h2, h3, ?_⟩
  rcases hown.2 with ⟨rfl, hn⟩ | ⟨g', cap, cur, rfl, hbg, hgg, hnc, hcm, hcs, htake⟩
  · subst hn
    have hx0 : xs = [] := List.length_eq_zero_iff.1 (by rw [hown.1]; simp)
    subst hx0
    obtain ⟨v2, w2, hr2, h4, _, _⟩ := run_append_own (P := P) w w.heap.size t ty e i z size bytes ht hi hz hsize hby hzs hsz (.slice none 0 0) 0 [] ⟨by simp, .inl ⟨rfl, rfl⟩⟩ a m c news hl hnews h1 h63 hbytes (Nat.le_refl _)
    rw [hr] at hr2
    simp only [Result.ok.injEq] at hr2
    obtain ⟨rfl, rfl⟩ := hr2
    rcases h4.2 with ⟨_, h5⟩ | ⟨g2, cap2, cur2, hv, hb2, _⟩
    · omega
    · exact .inr ⟨g2, by rw [hv]; rfl, hb2⟩
  · by_cases hroom : n + m ≤ cap
    · have hr2 := run_append_room (P := P) w t ty e i ht hi g' n cap cur hgg a m c news (by rw [hsize]; exact hl) hnews h1 hroom (by rw [hsize, hl, hcs, ← Nat.add_mul]; exact Nat.mul_le_mul_right _ hroom)
      rw [hr] at hr2
      simp only [Result.ok.injEq] at hr2
      exact .inl (by rw [hr2.1]; rfl)
    · have holds := World.ownsRow.cells (w := w) (base := base) (e := e) (size := size) (v := .slice (some ⟨g', 0, none⟩) n cap) (n := n) (xs := xs) hown (g := g') rfl
      have hr2 := run_append_grow (P := P) w t ty e i z ht hi hz ⟨g', 0, none⟩ n cap xs (by rw [hsize]; exact hown.1) holds a m c news (by rw [hsize]; exact hl) hnews (by omega) (by unfold maxLen at h63; omega) (by rw [hby]; exact growslice_fits (by omega) hbytes)
      rw [hr] at hr2
      simp only [Result.ok.injEq] at hr2
      exact .inr ⟨w.heap.size, by rw [hr2.1]; rfl, Nat.le_refl _⟩
end
theorem list_two {α} (a b : α) (j : Nat) (u : α) (h : [a, b][j]? = some u) : (j = 0 ∧ u = a) ∨ (j = 1 ∧ u = b) := by
  cases j with
  | zero => left; simp at h; exact ⟨rfl, h.symm⟩
  | succ j => cases j with
    | zero => right; simp at h; exact ⟨rfl, h.symm⟩
    | succ j => simp at h
/-! Rows of lists. -/
def krsV (l : List KR) : List Value := l.map KR.cell
theorem krsV_snoc (l : List KR) (k : KR) : krsV (l ++ [k]) = krsV l ++ [k.cell] := by simp [krsV]
def OwnTd (w : World) (base : Nat) (v : Value) (l : List KR) : Prop := w.ownsRow base 25 1 v l.length (krsV l)
theorem OwnTd.later {w w' : World} {base : Nat} {v : Value} {l : List KR} (h : OwnTd w base v l) (hb : Below w.heap.size w w') : OwnTd w' base v l := ownsRow_later h hb
theorem OwnTd.one {w : World} (k : KR) : OwnTd (w.alloc (.cells #[k.cell] 25)) w.heap.size (.slice (some ⟨w.heap.size, 0, none⟩) 1 1) [k] :=
  ⟨rfl, .inr ⟨w.heap.size, 1, #[k.cell], rfl, Nat.le_refl _, Blk.new w _ _, Nat.le_refl _, by unfold maxLen; omega, rfl, rfl⟩⟩
/-- Its last one, and what is left without it. -/
theorem OwnTd.last {w : World} {base : Nat} {v : Value} {l : List KR} (h : OwnTd w base v l) (hl : 0 < l.length) : ∃ g cap, v = .slice (some ⟨g, 0, none⟩) l.length cap ∧ l.length ≤ cap ∧ cap ≤ maxLen ∧ g < w.heap.size ∧ w.cell? ⟨g, l.length - 1, none⟩ = some (l.getD (l.length - 1) kr0).cell ∧
    OwnTd w base (.slice (some ⟨g, 0, none⟩) (l.length - 1) cap) l.dropLast := by
  obtain ⟨_, ⟨hv, hn⟩ | ⟨g, cap, cur, hv, hb, hg, hc, hm, hs, ht⟩⟩ := h
  · omega
  · refine ⟨g, cap, hv, hc, hm, Blk.lt (w := w) (b := g) (vs := cur) (t := 25) hg, ?_, by simp [krsV], .inr ⟨g, cap, cur, by simp, hb, hg, by simp; omega, hm, hs, ?_⟩⟩
    · rw [Blk.cell (w := w) (b := g) (vs := cur) (t := 25) hg]
      have : (krsV l)[l.length - 1]? = some (l.getD (l.length - 1) kr0).cell := by
        unfold krsV
        rw [List.getElem?_map, List.getElem?_eq_getElem (by omega), List.getD_eq_getElem?_getD, List.getElem?_eq_getElem (by omega)]; rfl
      rw [← this, ← ht, List.getElem?_take, if_pos (by omega)]
      simp
    · rw [List.length_dropLast, Nat.mul_one]
      have e : cur.toList.take (l.length - 1) = (cur.toList.take (l.length * 1)).take (l.length - 1) := by rw [List.take_take]; congr 1; omega
      rw [e, ht]; unfold krsV
      rw [← List.map_take, ← List.dropLast_eq_take]
theorem infoK : (Try.prog.info? 25).map (fun i => (i.zero, i.size, i.bytes)) = some (some (.slice none 0 0), 1, 24) := by kernel_rfl
set_option maxRecDepth 100000 in
theorem wpList_append_k {w : World} {ops : Array Oper} {rest : List Oper} {o : Oper} {a : Act} {Q : Exit → Act → World → Prop} (hgd : o.guard = none) (s x : Operand)
    (ho : o.op = .call { callee := .builtin .append, args := #[s, x], argTypes := #[62, 62] })
    (base : Nat) (v : Value) (l : List KR) (hs : a.eval s = v) (hown : OwnTd w base v l)
    (b : Nat) (k : KR) (hx : a.eval x = .slice (some ⟨b, 0, none⟩) 1 1) (hnew : Blk w b #[k.cell] 25) (hlen : l.length < 1073741824) (hbase : base ≤ w.heap.size)
    (h : ∀ v' w', OwnTd w' base v' (l ++ [k]) → w.grownBy w' v.ownBlock → wpList Try.prog ops Q rest (a.put o.dst v') w') : wpList Try.prog ops Q (o :: rest) a w := by
  refine wpList_plain hgd fun K hK => ?_
  obtain ⟨ib, hib, hz0, hz1, hz2⟩ := info_parts infoK
  have hnews : ∀ (j : Nat) (u : Value), [k.cell][j]? = some u → w.cell? ((⟨b, 0, none⟩ : Addr).add j) = some u := by
    intro j u hu
    cases j with
    | zero => simp at hu; subst hu; exact hnew.cell 0
    | succ j => simp at hu
  have hone : ∀ u ∈ [k.cell], u.oneCell' = true := by simp [KR.cell, Value.oneCell']
  have hown0 : w.ownsRow base 25 1 v l.length (krsV l) := hown
  obtain ⟨v', w', hr, h2, h3, _⟩ := run_append_place (P := Try.prog) w base 62 o.type 25 ib _ 1 24 Try.underlying62 hib hz0 hz1 hz2 rfl (by decide) v l.length (krsV l) hown0 ⟨b, 0, none⟩ 1 1 [k.cell] rfl hnews hone (by decide) (by unfold maxLen; omega) (by omega) hbase
  unfold Oper.wp execOp
  simp only [ho, resolve, invoke, builtin, Sem.run_bind, Sem.run_pure, Result.andThen_ok, List.map_toArray, List.map_cons, List.map_nil, hs, hx, hr]
  exact hK _ _ (h v' w' (by unfold OwnTd; rw [List.length_append, krsV_snoc]; exact h2) h3)
/-! Rows of pairs of lists. -/
def prsV : List (KR × KR) → List Value
  | [] => []
  | p :: l => p.1.cell :: p.2.cell :: prsV l
theorem prsV_length : ∀ l, (prsV l).length = l.length * 2
  | [] => rfl
  | p :: l => by rw [prsV, List.length_cons, List.length_cons, prsV_length l, List.length_cons]; omega
theorem prsV_append : ∀ l m, prsV (l ++ m) = prsV l ++ prsV m
  | [], m => rfl
  | p :: l, m => by show _ :: _ :: prsV (l ++ m) = _; rw [prsV_append l m]; rfl
theorem prsV_take : ∀ (l : List (KR × KR)) (n : Nat), (prsV l).take (n * 2) = prsV (l.take n)
  | [], n => by simp [prsV]
  | p :: l, 0 => by simp [prsV]
  | p :: l, n + 1 => by
    rw [show (n + 1) * 2 = n * 2 + 1 + 1 by omega, prsV, List.take_succ_cons, List.take_succ_cons, prsV_take l n, List.take_succ_cons, prsV]
def pr0 : KR × KR := (kr0, kr0)
theorem prsV_get : ∀ (l : List (KR × KR)) (i : Nat), i < l.length → (prsV l)[i * 2]? = some (l.getD i pr0).1.cell ∧ (prsV l)[i * 2 + 1]? = some (l.getD i pr0).2.cell
  | [], i, h => absurd h (Nat.not_lt_zero i)
  | p :: l, 0, h => ⟨rfl, rfl⟩
  | p :: l, i + 1, h => by
    have := prsV_get l i (by simpa using h)
    rw [prsV, show (i + 1) * 2 = i * 2 + 1 + 1 by omega, show i * 2 + 1 + 1 + 1 = (i * 2 + 1) + 1 + 1 by omega, List.getElem?_cons_succ, List.getElem?_cons_succ, List.getElem?_cons_succ, List.getElem?_cons_succ]
    exact this
def OwnPr (w : World) (base : Nat) (v : Value) (l : List (KR × KR)) : Prop := w.ownsRow base 59 2 v l.length (prsV l)
theorem OwnPr.later {w w' : World} {base : Nat} {v : Value} {l : List (KR × KR)} (h : OwnPr w base v l) (hb : Below w.heap.size w w') : OwnPr w' base v l := ownsRow_later h hb
theorem OwnPr.one {w : World} (p : KR × KR) : OwnPr (w.alloc (.cells #[p.1.cell, p.2.cell] 59)) w.heap.size (.slice (some ⟨w.heap.size, 0, none⟩) 1 1) [p] :=
  ⟨rfl, .inr ⟨w.heap.size, 1, #[p.1.cell, p.2.cell], rfl, Nat.le_refl _, Blk.new w _ _, Nat.le_refl _, by unfold maxLen; omega, rfl, rfl⟩⟩
theorem OwnPr.last {w : World} {base : Nat} {v : Value} {l : List (KR × KR)} (h : OwnPr w base v l) (hl : 0 < l.length) : ∃ g cap, v = .slice (some ⟨g, 0, none⟩) l.length cap ∧ l.length ≤ cap ∧ cap ≤ maxLen ∧ g < w.heap.size ∧ w.cell? ⟨g, (l.length - 1) * 2, none⟩ = some (l.getD (l.length - 1) pr0).1.cell ∧ w.cell? ⟨g, (l.length - 1) * 2 + 1, none⟩ = some (l.getD (l.length - 1) pr0).2.cell ∧
    OwnPr w base (.slice (some ⟨g, 0, none⟩) (l.length - 1) cap) l.dropLast := by
  obtain ⟨_, ⟨hv, hn⟩ | ⟨g, cap, cur, hv, hb, hg, hc, hm, hs, ht⟩⟩ := h
  · omega
  · have hget := prsV_get l (l.length - 1) (by omega)
    refine ⟨g, cap, hv, hc, hm, Blk.lt (w := w) (b := g) (vs := cur) (t := 59) hg, ?_, ?_, by rw [prsV_length], .inr ⟨g, cap, cur, by simp, hb, hg, by simp; omega, hm, hs, ?_⟩⟩
    · rw [Blk.cell (w := w) (b := g) (vs := cur) (t := 59) hg, ← hget.1, ← ht, List.getElem?_take, if_pos (by omega)]
      simp
    · rw [Blk.cell (w := w) (b := g) (vs := cur) (t := 59) hg, ← hget.2, ← ht, List.getElem?_take, if_pos (by omega)]
      simp
    · rw [List.length_dropLast]
      have e : cur.toList.take ((l.length - 1) * 2) = (cur.toList.take (l.length * 2)).take ((l.length - 1) * 2) := by rw [List.take_take]; congr 1; omega
      rw [e, ht, prsV_take, ← List.dropLast_eq_take]
theorem infoPr : (Try.prog.info? 59).map (fun i => (i.zero, i.size, i.bytes)) = some (some (.agg #[.slice none 0 0, .slice none 0 0]), 2, 48) := by kernel_rfl
set_option maxRecDepth 100000 in
theorem wpList_append_pr {w : World} {ops : Array Oper} {rest : List Oper} {o : Oper} {a : Act} {Q : Exit → Act → World → Prop} (hgd : o.guard = none) (s x : Operand)
    (ho : o.op = .call { callee := .builtin .append, args := #[s, x], argTypes := #[60, 60] })
    (base : Nat) (v : Value) (l : List (KR × KR)) (hs : a.eval s = v) (hown : OwnPr w base v l)
    (b : Nat) (p : KR × KR) (hx : a.eval x = .slice (some ⟨b, 0, none⟩) 1 1) (hnew : Blk w b #[p.1.cell, p.2.cell] 59) (hlen : l.length < 1073741824) (hbase : base ≤ w.heap.size)
    (h : ∀ v' w', OwnPr w' base v' (l ++ [p]) → w.grownBy w' v.ownBlock → (v'.ownBlock = v.ownBlock ∨ ∃ g', v'.ownBlock = some g' ∧ w.heap.size ≤ g') → wpList Try.prog ops Q rest (a.put o.dst v') w') : wpList Try.prog ops Q (o :: rest) a w := by
  refine wpList_plain hgd fun K hK => ?_
  obtain ⟨ib, hib, hz0, hz1, hz2⟩ := info_parts infoPr
  have hnews : ∀ (j : Nat) (u : Value), [p.1.cell, p.2.cell][j]? = some u → w.cell? ((⟨b, 0, none⟩ : Addr).add j) = some u := by
    intro j u hu
    have hadd : (⟨b, 0, none⟩ : Addr).add j = ⟨b, j, none⟩ := by unfold Addr.add; split <;> simp_all
    rw [hadd]
    rcases list_two _ _ j u hu with ⟨rfl, rfl⟩ | ⟨rfl, rfl⟩
    · exact hnew.cell 0
    · exact hnew.cell 1
  have hone : ∀ u ∈ [p.1.cell, p.2.cell], u.oneCell' = true := by simp [KR.cell, Value.oneCell']
  have hown0 : w.ownsRow base 59 2 v l.length (prsV l) := hown
  obtain ⟨v', w', hr, h2, h3, h4⟩ := run_append_place (P := Try.prog) w base 60 o.type 59 ib _ 2 48 Try.underlying60 hib hz0 hz1 hz2 rfl (by decide) v l.length (prsV l) hown0 ⟨b, 0, none⟩ 1 1 [p.1.cell, p.2.cell] rfl hnews hone (by decide) (by unfold maxLen; omega) (by omega) hbase
  unfold Oper.wp execOp
  simp only [ho, resolve, invoke, builtin, Sem.run_bind, Sem.run_pure, Result.andThen_ok, List.map_toArray, List.map_cons, List.map_nil, hs, hx, hr]
  exact hK _ _ (h v' w' (by unfold OwnPr; rw [List.length_append, prsV_append]; exact h2) h3 h4)
end Go.Proofs.Ytgdlbahfmddkaaa
/- Are two values alike, but for their Kids' fields; are two lists: the program's walks. -/
namespace Go.Proofs.Ytgdlbahfmddkaaa
open Go Go.RowKit
set_option linter.unusedVariables false
set_option linter.unusedSimpArgs false
set_option maxRecDepth 100000

def alikeP (a b : Vl) : Prop := a.kind = b.kind ∧ a.byte = b.byte ∧ a.text = b.text ∧ a.pick = b.pick ∧ a.kids.len = b.kids.len
instance (a b : Vl) : Decidable (alikeP a b) := by unfold alikeP; infer_instance
set_option maxHeartbeats 16000000 in
theorem valike_any (a b : Vl) (A B : Option Addr) (c d : Nat) (w : World) : Calls Try.prog 28 #[.agg (vlC a A c), .agg (vlC b B d)] w (Ans w (.bool (decide (alikeP a b)))) := by
  have hal : Hid (Below w.heap.size w ((w.alloc (.cells (vlC a A c) 27)).alloc (.cells (vlC b B d) 27))) := ((Below.refl _ _).alloc (Nat.le_refl _) _).alloc (by simp) _
  have HA : Hid (Blk ((w.alloc (.cells (vlC a A c) 27)).alloc (.cells (vlC b B d) 27)) w.heap.size (vlC a A c) 27) := (Blk.new _ _ _).alloc _
  have HB : Hid (Blk ((w.alloc (.cells (vlC a A c) 27)).alloc (.cells (vlC b B d) 27)) (w.heap.size + 1) (vlC b B d) 27) := Blk.new' (by simp) _ _
  have HD : Hid (¬ alikeP a b → decide (alikeP a b) = false) := fun h => decide_eq_false h
  have HE : Hid (alikeP a b → decide (alikeP a b) = true) := fun h => decide_eq_true h
  generalize decide (alikeP a b) = r at *
  unfold alikeP at HD HE
  obtain ⟨ak, ab, at_, ap, as1⟩ := a
  obtain ⟨bk, bb, bt, bp, bs2⟩ := b
  rw [vlC_five] at *
  simp only at HA HB hal HD HE ⊢
  by_cases h1 : ak = bk
  · have z1 : (ak == bk) = true := by simp [h1]
    by_cases h2 : ab = bb
    · have z2 : (((ab.toNat : Nat) : Int) == ((bb.toNat : Nat) : Int)) = true := by simp [h2]
      by_cases h3 : at_ = bt
      · have z3 : (bs at_ == bs bt) = true := by rw [bs_beq, decide_eq_true h3]
        have z3l : (bs at_).toList = (bs bt).toList := by rw [h3]
        have z3e : ((bs at_).toList == (bs bt).toList) = true := by rw [z3l]; simp
        by_cases h4 : ap = bp
        · have z4 : (ap == bp) = true := by simp [h4]
          by_cases h5 : as1.len = bs2.len
          · have z5 : (((as1.len : Nat) : Int) == ((bs2.len : Nat) : Int)) = true := by simp [h5]
            rw [HE.out ⟨h1, h2, h3, h4, h5⟩]
            clear h1 h2 h3 h4 h5
            clear HD HE
            go_enter Try.func28, Try.ntmps28
            go_upto_region 1 with (fail)
            generalize (w.alloc (.cells #[.int .i64 ak, .int .u8 ((ab.toNat : Nat) : Int), .string (bs at_), .int .i64 ap, .slice A as1.len c] 27)).alloc (.cells #[.int .i64 bk, .int .u8 ((bb.toNat : Nat) : Int), .string (bs bt), .int .i64 bp, .slice B bs2.len d] 27) = w1 at *
            obtain ⟨f0, f1, f2, f3, f4⟩ := vl_cells HA.out
            obtain ⟨b0, b1, b2, b3, b4⟩ := vl_cells HB.out
            go_wp2
            go_ret
            exact ⟨rfl, hal.out⟩
          · have z5 : (((as1.len : Nat) : Int) == ((bs2.len : Nat) : Int)) = false := by rw [beq_eq_false_iff_ne]; omega
            rw [HD.out (fun h => h5 h.2.2.2.2)]
            clear h1 h2 h3 h4 h5
            clear HD HE
            go_enter Try.func28, Try.ntmps28
            go_upto_region 1 with (fail)
            generalize (w.alloc (.cells #[.int .i64 ak, .int .u8 ((ab.toNat : Nat) : Int), .string (bs at_), .int .i64 ap, .slice A as1.len c] 27)).alloc (.cells #[.int .i64 bk, .int .u8 ((bb.toNat : Nat) : Int), .string (bs bt), .int .i64 bp, .slice B bs2.len d] 27) = w1 at *
            obtain ⟨f0, f1, f2, f3, f4⟩ := vl_cells HA.out
            obtain ⟨b0, b1, b2, b3, b4⟩ := vl_cells HB.out
            go_wp2
            go_ret
            exact ⟨rfl, hal.out⟩
        · have z4 : (ap == bp) = false := by rw [beq_eq_false_iff_ne]; exact h4
          rw [HD.out (fun h => h4 h.2.2.2.1)]
          clear h1 h2 h3 h4
          clear HD HE
          go_enter Try.func28, Try.ntmps28
          go_upto_region 1 with (fail)
          generalize (w.alloc (.cells #[.int .i64 ak, .int .u8 ((ab.toNat : Nat) : Int), .string (bs at_), .int .i64 ap, .slice A as1.len c] 27)).alloc (.cells #[.int .i64 bk, .int .u8 ((bb.toNat : Nat) : Int), .string (bs bt), .int .i64 bp, .slice B bs2.len d] 27) = w1 at *
          obtain ⟨f0, f1, f2, f3, f4⟩ := vl_cells HA.out
          obtain ⟨b0, b1, b2, b3, b4⟩ := vl_cells HB.out
          go_wp2
          go_ret
          exact ⟨rfl, hal.out⟩
      · have z3 : (bs at_ == bs bt) = false := by rw [bs_beq, decide_eq_false h3]
        have z3l : ¬ (bs at_).toList = (bs bt).toList := fun e => h3 (by rw [Lib.toList_data, Lib.toList_data, bs_data, bs_data] at e; exact e)
        have z3e : ((bs at_).toList == (bs bt).toList) = false := by rw [beq_eq_false_iff_ne]; exact z3l
        rw [HD.out (fun h => h3 h.2.2.1)]
        clear h1 h2 h3
        clear HD HE
        go_enter Try.func28, Try.ntmps28
        go_upto_region 1 with (fail)
        generalize (w.alloc (.cells #[.int .i64 ak, .int .u8 ((ab.toNat : Nat) : Int), .string (bs at_), .int .i64 ap, .slice A as1.len c] 27)).alloc (.cells #[.int .i64 bk, .int .u8 ((bb.toNat : Nat) : Int), .string (bs bt), .int .i64 bp, .slice B bs2.len d] 27) = w1 at *
        obtain ⟨f0, f1, f2, f3, f4⟩ := vl_cells HA.out
        obtain ⟨b0, b1, b2, b3, b4⟩ := vl_cells HB.out
        go_wp2
        go_ret
        exact ⟨rfl, hal.out⟩
    · have z2 : (((ab.toNat : Nat) : Int) == ((bb.toNat : Nat) : Int)) = false := by rw [beq_eq_false_iff_ne]; exact fun e => h2 (UInt8.toNat_inj.1 (by omega))
      rw [HD.out (fun h => h2 h.2.1)]
      clear h1 h2
      clear HD HE
      go_enter Try.func28, Try.ntmps28
      go_upto_region 1 with (fail)
      generalize (w.alloc (.cells #[.int .i64 ak, .int .u8 ((ab.toNat : Nat) : Int), .string (bs at_), .int .i64 ap, .slice A as1.len c] 27)).alloc (.cells #[.int .i64 bk, .int .u8 ((bb.toNat : Nat) : Int), .string (bs bt), .int .i64 bp, .slice B bs2.len d] 27) = w1 at *
      obtain ⟨f0, f1, f2, f3, f4⟩ := vl_cells HA.out
      obtain ⟨b0, b1, b2, b3, b4⟩ := vl_cells HB.out
      go_wp2
      go_ret
      exact ⟨rfl, hal.out⟩
  · have z1 : (ak == bk) = false := by rw [beq_eq_false_iff_ne]; exact h1
    rw [HD.out (fun h => h1 h.1)]
    clear h1
    clear HD HE
    go_enter Try.func28, Try.ntmps28
    go_upto_region 1 with (fail)
    generalize (w.alloc (.cells #[.int .i64 ak, .int .u8 ((ab.toNat : Nat) : Int), .string (bs at_), .int .i64 ap, .slice A as1.len c] 27)).alloc (.cells #[.int .i64 bk, .int .u8 ((bb.toNat : Nat) : Int), .string (bs bt), .int .i64 bp, .slice B bs2.len d] 27) = w1 at *
    obtain ⟨f0, f1, f2, f3, f4⟩ := vl_cells HA.out
    obtain ⟨b0, b1, b2, b3, b4⟩ := vl_cells HB.out
    go_wp2
    go_ret
    exact ⟨rfl, hal.out⟩
/-- Are two lists alike? -/
def alikeL (x y : Vs) : Prop := x.len = y.len ∧ ∀ j, j < x.len → alikeP (x.at j) (y.at j)
noncomputable def alikeB (x y : Vs) : Bool := @decide (alikeL x y) (Classical.propDecidable _)
theorem alikeB_t {x y : Vs} (h : alikeL x y) : alikeB x y = true := by unfold alikeB; simp [h]
theorem alikeB_f {x y : Vs} (h : ¬ alikeL x y) : alikeB x y = false := by unfold alikeB; simp [h]
structure EqS (w0 : World) (x y : Vs) (A B : Option Addr) (w : World) : Prop where
  bel : Below w0.heap.size w0 w
  ra : VRow w A 0 x
  rb : VRow w B 0 y
theorem EqS.later {w0 w w' : World} {x y : Vs} {A B : Option Addr} (h : EqS w0 x y A B w) (hb : Below w.heap.size w w') : EqS w0 x y A B w' := ⟨h.bel.trans (hb.mono h.bel.size), h.ra.later hb, h.rb.later hb⟩
def EqL (w0 : World) (x y : Vs) (A B : Option Addr) (u : Value) (w : World) : Prop := ∃ k : Nat, k ≤ x.len ∧ u = .int .i64 (k : Int) ∧ (∀ j, j < k → alikeP (x.at j) (y.at j)) ∧ EqS w0 x y A B w
set_option maxHeartbeats 16000000 in
theorem equalfunc_any (x y : Vs) (A B : Option Addr) (c d : Nat) (hx : x.len ≤ 1073741824) (w : World) (ha : VRow w A 0 x) (hb : VRow w B 0 y) :
    Calls Try.prog 27 #[.slice A x.len c, .slice B y.len d, .func (.func 28) #[] #[]] w (Ans w (.bool (alikeB x y))) := by
  have HS0 : Hid (EqS w x y A B w) := ⟨Below.refl _ _, ha, hb⟩
  have HT : Hid (alikeL x y → alikeB x y = true) := fun h => alikeB_t h
  have HF : Hid (¬ alikeL x y → alikeB x y = false) := fun h => alikeB_f h
  have HC : Hid (∀ (p q : Vl) (A B : Option Addr) (c d : Nat) (w : World), Calls Try.prog 28 #[.agg (vlC p A c), .agg (vlC q B d)] w (Ans w (.bool (decide (alikeP p q))))) := valike_any
  generalize alikeB x y = r at *
  have hent := enters_of Try.func28 (by kernel_rfl) rfl
  clear ha hb
  by_cases hl : x.len = y.len
  · have z : (((x.len : Nat) : Int) != ((y.len : Nat) : Int)) = false := by simp [hl]
    have HL := Lib.hid hl
    clear hl
    go_enter Try.func27, Try.ntmps27
    go_wp2
    go_loopw [17] (EqL w x y A B) (fun u _ => x.len - (intOf u).toNat)
    case atStart => exact ⟨0, Nat.zero_le _, rfl, fun j hj => absurd hj (Nat.not_lt_zero j), HS0.out⟩
    case round =>
      obtain ⟨k, hk, rfl, hpre, hs⟩ := hrel
      have HS := Lib.hid hs
      have HP := Lib.hid hpre
      clear hs HS0 hpre
      by_cases hlt : k < x.len
      · have hltz : (k : Int) < (x.len : Int) := by omega
        have hltn : k < y.len := by have := HL.out; omega
        have hlty : (k : Int) < (y.len : Int) := by omega
        obtain ⟨gx, ox, X, cx, rfl, hx1⟩ := VRow.el HS.out.ra hlt
        obtain ⟨gy, oy, Y, cy, rfl, hy1⟩ := VRow.el HS.out.rb hltn
        have HCC := Lib.hid (fun w' => HC.out (x.at k) (y.at k) X Y cx cy w')
        have HN : Hid (¬ alikeP (x.at k) (y.at k) → ¬ alikeL x y) := fun h h2 => h (h2.2 k hlt)
        have HQ : Hid (alikeP (x.at k) (y.at k) → ∀ j, j < k + 1 → alikeP (x.at j) (y.at j)) := fun h j hj => by
          rcases (by omega : j < k ∨ j = k) with e | e
          · exact HP.out j e
          · rw [e]; exact h
        clear HP HC
        have HX1 := Lib.hid hx1
        have HY1 := Lib.hid hy1
        clear hx1 hy1
        by_cases hpp : alikeP (x.at k) (y.at k)
        · rw [decide_eq_true hpp] at HCC
          have HQ2 := Lib.hid (HQ.out hpp)
          clear HN hpp HQ
          generalize x.at k = p at *
          generalize y.at k = q at *
          obtain ⟨pk, pb, pt, pp, ps⟩ := p
          obtain ⟨qk, qb, qt, qp, qs⟩ := q
          obtain ⟨p0, p1, p2, p3, p4⟩ := HX1.out.five
          have hyb : Below wr.heap.size wr (wr.alloc (.cells #[.int .i64 pk, .int .u8 ((pb.toNat : Nat) : Int), .string (bs pt), .int .i64 pp, .slice X ps.len cx] 27)) := (Below.refl _ _).alloc (Nat.le_refl _) _
          obtain ⟨q0, q1, q2, q3, q4⟩ := (HY1.out.later hyb).five
          have HBB : Hid (Below wr.heap.size wr ((wr.alloc (.cells #[.int .i64 pk, .int .u8 ((pb.toNat : Nat) : Int), .string (bs pt), .int .i64 pp, .slice X ps.len cx] 27)).alloc (.cells #[.int .i64 qk, .int .u8 ((qb.toNat : Nat) : Int), .string (bs qt), .int .i64 qp, .slice Y qs.len cy] 27))) := hyb.alloc (by simp) _
          rw [vlC_five] at HCC
          rw [vlC_five] at HCC
          simp only at HCC
          clear hyb HX1 HY1
          go_wp2_with fail
          refine (HCC.out _).mono ?_; rintro e w2 ⟨rfl, hb⟩
          have HS2 := Lib.hid (HS.out.later (HBB.out.trans (hb.mono HBB.out.size)))
          clear hb HCC HS HBB p0 p1 p2 p3 p4 q0 q1 q2 q3 q4
          go_wp2
          go_roundw
          case rel => exact ⟨k + 1, by omega, by go_num, HQ2.out, HS2.out⟩
          case measure => simp [intOf]; omega
        · rw [decide_eq_false hpp] at HCC
          have HR : r = false := HF.out (HN.out hpp)
          subst HR
          clear HN HQ hpp
          generalize x.at k = p at *
          generalize y.at k = q at *
          obtain ⟨pk, pb, pt, pp, ps⟩ := p
          obtain ⟨qk, qb, qt, qp, qs⟩ := q
          obtain ⟨p0, p1, p2, p3, p4⟩ := HX1.out.five
          have hyb : Below wr.heap.size wr (wr.alloc (.cells #[.int .i64 pk, .int .u8 ((pb.toNat : Nat) : Int), .string (bs pt), .int .i64 pp, .slice X ps.len cx] 27)) := (Below.refl _ _).alloc (Nat.le_refl _) _
          obtain ⟨q0, q1, q2, q3, q4⟩ := (HY1.out.later hyb).five
          have HBB : Hid (Below wr.heap.size wr ((wr.alloc (.cells #[.int .i64 pk, .int .u8 ((pb.toNat : Nat) : Int), .string (bs pt), .int .i64 pp, .slice X ps.len cx] 27)).alloc (.cells #[.int .i64 qk, .int .u8 ((qb.toNat : Nat) : Int), .string (bs qt), .int .i64 qp, .slice Y qs.len cy] 27))) := hyb.alloc (by simp) _
          rw [vlC_five] at HCC
          rw [vlC_five] at HCC
          simp only at HCC
          clear hyb HX1 HY1
          go_wp2_with fail
          refine (HCC.out _).mono ?_; rintro e w2 ⟨rfl, hb⟩
          have HS2 := Lib.hid (HS.out.later (HBB.out.trans (hb.mono HBB.out.size)))
          clear hb HCC HS HBB p0 p1 p2 p3 p4 q0 q1 q2 q3 q4
          go_wp2
          go_ret
          exact ⟨rfl, HS2.out.bel⟩
      · obtain rfl : k = x.len := by omega
        have hlast : ¬ ((x.len : Nat) : Int) < (x.len : Int) := by omega
        have HR : r = true := HT.out ⟨HL.out, HP.out⟩
        subst HR
        go_wp2
        go_ret
        exact ⟨rfl, HS.out.bel⟩
  · have z : (((x.len : Nat) : Int) != ((y.len : Nat) : Int)) = true := by rw [bne_iff_ne]; omega
    have HR : r = false := HF.out (fun h => hl h.1)
    subst HR
    clear hl
    go_enter Try.func27, Try.ntmps27
    go_wp2
    go_ret
    exact ⟨rfl, HS0.out.bel⟩
end Go.Proofs.Ytgdlbahfmddkaaa
/- How many values there are: the program's walk. -/
namespace Go.Proofs.Ytgdlbahfmddkaaa
open Go Go.RowKit
set_option linter.unusedVariables false
set_option linter.unusedSimpArgs false
set_option maxRecDepth 100000

def todoC (l : List KR) : Nat := (l.map (fun k => cntVs k.s)).sum
theorem todoC_snoc (l : List KR) (k : KR) : todoC (l ++ [k]) = todoC l + cntVs k.s := by unfold todoC; simp
theorem snoc_of {α} (l : List α) (d : α) (h : 0 < l.length) : l = l.dropLast ++ [l.getD (l.length - 1) d] := by
  rcases List.eq_nil_or_concat l with rfl | ⟨L, b, rfl⟩
  · exact absurd h (Nat.lt_irrefl 0)
  · simp
def lenV : Value → Nat
  | .slice _ n _ => n
  | _ => 0
def MyL (w1 : World) (H tot : Nat) (x3 x4 : Value) (wr : World) : Prop :=
  ∃ (l : List KR) (m : Nat), x3 = .int .i64 (m : Int) ∧ OwnTd wr H x4 l ∧ (∀ k ∈ l, k.ok w1) ∧ m + todoC l = tot ∧ l.length ≤ m ∧ Below H w1 wr
def MzL (w1 : World) (H : Nat) (l0 : List KR) (ks : Vs) (x4 x31 : Value) (wr : World) : Prop :=
  ∃ (k : Nat) (l : List KR), k ≤ ks.len ∧ x31 = .int .i64 (k : Int) ∧ OwnTd wr H x4 l ∧ (∀ k ∈ l, k.ok w1) ∧ todoC l + k = todoC l0 + cntTo ks k ∧ l.length ≤ l0.length + k ∧ Below H w1 wr
theorem td_form {w : World} {H : Nat} {x : Value} {l : List KR} (h : OwnTd w H x l) : ∃ A c, x = .slice A l.length c ∧ l.length ≤ c := by
  obtain ⟨_, ⟨hv, hn⟩ | ⟨g, cap, cur, hv, hb, hg, h1, h2, h3, h4⟩⟩ := h
  · exact ⟨none, 0, by rw [hv, hn], by omega⟩
  · exact ⟨_, cap, hv, h1⟩
set_option maxHeartbeats 32000000 in
theorem many_c : ManyC := by
  intro v u w hcnt hu
  obtain ⟨B, cv, hcv, rfl, hkr⟩ := hu
  have hb1 := (Below.refl w.heap.size w).alloc (Nat.le_refl _) (.cells (vlC v B cv) 27)
  have HB1 := Lib.hid hb1
  have HX1 : Hid (Blk (w.alloc (.cells (vlC v B cv) 27)) w.heap.size (vlC v B cv) 27) := Blk.new _ _ _
  have HOK : Hid ((⟨v.kids, B, cv⟩ : KR).ok (w.alloc (.cells (vlC v B cv) 27))) := ⟨hcv, hkr.later hb1⟩
  have HT : Hid (1 + todoC [⟨v.kids, B, cv⟩] = cntV v) := by unfold Hid todoC cntV; simp
  generalize cntV v = tot at *
  clear hkr hb1
  obtain ⟨vk, vb, vt, vp, ks⟩ := v
  rw [vlC_five] at *
  simp only at *
  go_enter Try.func16, Try.ntmps16
  go_upto_region 1 with (fail)
  generalize w.alloc (.cells #[.int .i64 vk, .int .u8 ((vb.toNat : Nat) : Int), .string (bs vt), .int .i64 vp, .slice B ks.len cv] 27) = w1 at *
  obtain ⟨b0, b1, b2, b3, b4⟩ := vl_cells HX1.out
  have HS0 : Hid (MyL w1 w1.heap.size tot (.int .i64 ((1 : Nat) : Int)) (.slice (some ⟨w1.heap.size, 0, none⟩) 1 1) (w1.alloc (.cells #[.slice B ks.len cv] 25))) :=
    ⟨[⟨ks, B, cv⟩], 1, rfl, OwnTd.one ⟨ks, B, cv⟩, fun k hk => by rw [List.mem_singleton.1 hk]; exact HOK.out, HT.out, Nat.le_refl _, (Below.refl _ _).alloc (Nat.le_refl _) _⟩
  clear HX1 HOK HT
  go_wp2
  go_loopw [3, 4] (MyL w1 w1.heap.size tot) (fun x3 x4 _ => (tot - (intOf x3).toNat) + lenV x4)
  case atStart => exact HS0.out
  case round =>
    obtain ⟨l, m, rfl, hown, hok, htot, hlm, hbel⟩ := hrel
    have HBE := Lib.hid hbel
    have HTOT := Lib.hid htot
    clear HS0 b0 b1 b2 b3 b4
    by_cases hl : 0 < l.length
    · obtain ⟨g, cap, rfl, hc1, hc2, hglt, hcell, hrest⟩ := hown.last hl
      have hsn := snoc_of l kr0 hl
      have hkok := hok (l.getD (l.length - 1) kr0) (by rw [List.getD_eq_getElem?_getD, List.getElem?_eq_getElem (by omega)]; exact List.getElem_mem _)
      have hld : l.dropLast.length + 1 = l.length := by rw [List.length_dropLast]; omega
      have hdk : ∀ k ∈ l.dropLast, k.ok w1 := fun k hk => hok k (List.dropLast_subset l hk)
      have htd : todoC l = todoC l.dropLast + cntVs (l.getD (l.length - 1) kr0).s := by conv => lhs; rw [hsn]; rw [todoC_snoc]
      generalize l.getD (l.length - 1) kr0 = kr at *
      generalize l.dropLast = l0 at *
      obtain ⟨ks2, A2, c2⟩ := kr
      have HKO := Lib.hid hkok
      have HD := Lib.hid hdk
      unfold KR.cell at hcell
      simp only at hcell htd
      have hks : ks2.len ≤ cntVs ks2 := cntVs_len ks2
      obtain ⟨n, hn⟩ : ∃ n, l.length = n + 1 := ⟨l.length - 1, by omega⟩
      rw [hn] at hcell hrest hc1 hlm hld ⊢
      rw [Nat.add_sub_cancel] at hcell hrest
      have HR0 := Lib.hid hrest
      have hnb : (n : Int) ≤ 100000000 := by have := HTOT.out; omega
      have hnc : (n : Int) ≤ (cap : Int) := by omega
      have hncn : n ≤ cap := by omega
      clear hown hok hsn hrest hkok hdk
      have HMB : Hid (m + ks2.len ≤ 100000000) := by unfold Hid; omega
      have hmb : (m : Int) + (ks2.len : Int) ≤ 100000000 := by omega
      have HM2 : Hid ((m + ks2.len) + todoC l0 + (cntVs ks2 - ks2.len) = tot) := by unfold Hid; omega
      have HLL : Hid (l0.length + 1 ≤ m) := by unfold Hid; omega
      have HLN : Hid (l0.length = n) := by unfold Hid; omega
      have HLE := Lib.hid hks
      have HS1 : Hid (MzL w1 w1.heap.size l0 ks2 (.slice (some ⟨g, 0, none⟩) n cap) (.int .i64 ((0 : Nat) : Int)) wr) := ⟨0, l0, Nat.zero_le _, rfl, HR0.out, HD.out, by rw [cntTo_zero], by omega, HBE.out⟩
      have HNM : Hid (n + 1 ≤ m) := hlm
      clear HR0 HD HBE HTOT htot hlm htd hks hld hbel
      go_wp2
      go_loopw [4, 31] (MzL w1 w1.heap.size l0 ks2) (fun _ x _ => ks2.len - (intOf x).toNat)
      case atStart => exact HS1.out
      case round =>
        obtain ⟨k, L, hk, rfl, hown, hok, htd, hll, hbel⟩ := hrel
        have HO := Lib.hid hown
        have HK := Lib.hid hok
        have HBE := Lib.hid hbel
        have HTD := Lib.hid htd
        obtain ⟨xA, xc, hxv, hxc⟩ := td_form hown
        subst hxv
        have hLb : L.length ≤ 100000001 := by have := HMB.out; have := HLL.out; have := HNM.out; omega
        clear hown hok hbel HS1 hcell htd
        by_cases hlt : k < ks2.len
        · have hltz : (k : Int) < (ks2.len : Int) := by omega
          obtain ⟨g2, o2, rfl, hg2, Y, cy, q0, hcl, q6⟩ := VRow.at_ HKO.out.2 hlt
          have hct := cntTo_succ hlt
          rw [Nat.zero_add] at hcl
          have hcell2 : ∀ j, j < 5 → wr.cell? ⟨g2, o2 + k * 5 + j, none⟩ = (vlC (ks2.at k) Y cy)[j]? := fun j hj => (HBE.out.cell (p := ⟨g2, o2 + k * 5 + j, none⟩) hg2).trans (hcl j hj)
          have hcy : cntV (ks2.at k) = 1 + cntVs (ks2.at k).kids := rfl
          have hys : (ks2.at k).kids.len = 0 → cntVs (ks2.at k).kids = 0 := fun h => by
            generalize (ks2.at k).kids = z at *
            cases z with
            | nil => rfl
            | cons a b c d e f => rw [Vs.len_cons] at h; omega
          generalize ks2.at k = y at *
          obtain ⟨yk, yb, yt, yp, ys⟩ := y
          rw [vlC_five] at *
          simp only at q0 q6 hcy hys
          have q1 := hcell2 0 (by decide)
          have q2 := hcell2 1 (by decide)
          have q3 := hcell2 2 (by decide)
          have q4 := hcell2 3 (by decide)
          have q5 := hcell2 4 (by decide)
          simp at q1 q2 q3 q4 q5
          have HCT : Hid (cntTo ks2 (k + 1) = cntTo ks2 k + 1 + cntVs ys) := by unfold Hid; omega
          have HQ : Hid ((⟨ys, Y, cy⟩ : KR).ok w1) := ⟨q0, q6⟩
          clear hcell2 hcl hct hcy q6
          have HBX : Hid (Below wr.heap.size wr (wr.alloc (.cells #[.int .i64 yk, .int .u8 ((yb.toNat : Nat) : Int), .string (bs yt), .int .i64 yp, .slice Y ys.len cy] 27))) := (Below.refl _ _).alloc (Nat.le_refl _) _
          by_cases hy : 0 < ys.len
          · have hyz : (0 : Int) < (ys.len : Int) := by omega
            clear hys
            have HBY : Hid (Below wr.heap.size wr ((wr.alloc (.cells #[.int .i64 yk, .int .u8 ((yb.toNat : Nat) : Int), .string (bs yt), .int .i64 yp, .slice Y ys.len cy] 27)).alloc (.cells #[.slice Y ys.len cy] 25))) := HBX.out.alloc (by simp) _
            have HNW : Hid (Blk ((wr.alloc (.cells #[.int .i64 yk, .int .u8 ((yb.toNat : Nat) : Int), .string (bs yt), .int .i64 yp, .slice Y ys.len cy] 27)).alloc (.cells #[.slice Y ys.len cy] 25)) (wr.heap.size + 1) #[(⟨ys, Y, cy⟩ : KR).cell] 25) := Blk.new' (by simp) _ _
            have HLO : Hid (w1.heap.size ≤ ((wr.alloc (.cells #[.int .i64 yk, .int .u8 ((yb.toNat : Nat) : Int), .string (bs yt), .int .i64 yp, .slice Y ys.len cy] 27)).alloc (.cells #[.slice Y ys.len cy] 25)).heap.size) := Nat.le_trans HBE.out.size HBY.out.size
            go_wp2_with (at_builtin; refine wpList_append_k rfl _ _ rfl w1.heap.size (.slice xA L.length xc) L rfl (HO.out.later HBY.out) (wr.heap.size + 1) ⟨ys, Y, cy⟩ rfl HNW.out (by omega) HLO.out ?_; intro v6 w6 h1 h2; have HO6 := Lib.hid h1; have HB6 := Lib.hid ((HBE.out.trans (HBY.out.mono HBE.out.size)).grown h2 HLO.out (fun k hk => (World.ownsRow.lt (HO.out.later HBY.out) k hk).1)); clear h1 h2)
            go_wp2
            go_roundw
            case rel => exact ⟨k + 1, L ++ [⟨ys, Y, cy⟩], by omega, by go_num, HO6.out, fun q hq => by
              rcases List.mem_append.1 hq with e | e
              · exact HK.out q e
              · rw [List.mem_singleton.1 e]; exact HQ.out, by rw [todoC_snoc, HCT.out]; have := HTD.out; simp only; omega, by rw [List.length_append]; simp; omega, HB6.out⟩
            case measure => simp [intOf]; omega
          · have hyz : ¬ (0 : Int) < (ys.len : Int) := by omega
            have hy0 := hys (by omega)
            clear hys
            go_wp2
            go_roundw
            case rel => exact ⟨k + 1, L, by omega, by go_num, HO.out.later HBX.out, HK.out, by rw [HCT.out]; have := HTD.out; omega, by omega, HBE.out.trans (HBX.out.mono HBE.out.size)⟩
            case measure => simp [intOf]; omega
        · obtain rfl : k = ks2.len := by omega
          have hlast : ¬ ((ks2.len : Nat) : Int) < (ks2.len : Int) := by omega
          have hall : cntTo ks2 ks2.len = cntVs ks2 := cntTo_all ks2
          have HE : Hid (MyL w1 w1.heap.size tot (.int .i64 ((m : Int) + (ks2.len : Int))) (.slice xA L.length xc) wr) :=
            ⟨L, m + ks2.len, by rw [Int.natCast_add], HO.out, HK.out, by have := HTD.out; have := HM2.out; have := HLE.out; omega, by have := HLL.out; omega, HBE.out⟩
          have HME : Hid ((tot - ((m : Int) + (ks2.len : Int)).toNat) + L.length < (tot - ((m : Int)).toNat) + (n + 1)) := by
            unfold Hid
            have h1 := HTD.out
            have h2 := HM2.out
            have h3 := HLE.out
            have h4 := HNM.out
            have h5 := HLN.out
            omega
          clear HO HK HBE HTD
          go_wp2
          go_roundw
          case rel => exact HE.out
          case measure => simp only [intOf, lenV]; exact HME.out
    · have hl0 : l = [] := List.length_eq_zero_iff.1 (by omega)
      obtain ⟨xA, xc, rfl, -⟩ := td_form hown
      subst hl0
      have htm : m = tot := by have := HTOT.out; unfold todoC at this; simpa using this
      clear hown hok htot
      subst htm
      go_wp2
      go_ret
      exact ⟨rfl, HB1.out.trans (HBE.out.mono HB1.out.size)⟩
end Go.Proofs.Ytgdlbahfmddkaaa
