/- The document's nodes moved, parts, wholes: walked. -/
import Derived.Test.YtcgjmnhmhiddkaaDoorM23
import Derived.Test.YtcgjmnhmhiddkaaDoorM20
import Derived.Test.YtcgjmnhmhiddkaaDoorM17
namespace Go.Proofs.YtcgjmnhmhiddkaaDoor
open Go Go.RowKit
set_option linter.unusedVariables false
set_option linter.unusedSimpArgs false

end Go.Proofs.YtcgjmnhmhiddkaaDoor
/- Rows of nodes appended whole; a cell of a row stored to. -/
namespace Go.Proofs.YtcgjmnhmhiddkaaDoor
open Go Go.RowKit
set_option linter.unusedVariables false

theorem flat10_ones : ∀ (l : List Nd) (u : Value), u ∈ flat10 l → u.oneCell' = true
  | [], u, h => by simp [flat10] at h
  | t :: l, u, h => by
    simp only [flat10, List.mem_append] at h
    rcases h with h | h
    · simp only [ndC, List.mem_cons, List.not_mem_nil, or_false] at h
      rcases h with rfl | rfl | rfl | rfl | rfl | rfl | rfl | rfl | rfl | rfl <;> rfl
    · exact flat10_ones l u h
theorem OwnN.empty {w : World} {base b : Nat} (h : Blk w b #[] 35) (hb : base ≤ b) : OwnN w base (.slice (some ⟨b, 0, none⟩) 0 0) [] :=
  ⟨rfl, .inr ⟨b, 0, #[], rfl, hb, h, Nat.le_refl _, Nat.zero_le _, rfl, rfl⟩⟩
/-- What is owned stands in one block from its beginning. -/
theorem OwnN.blk {w : World} {base : Nat} {v : Value} {l : List Nd} (h : OwnN w base v l) (hne : 0 < l.length) :
    ∃ g cap cur, v = .slice (some ⟨g, 0, none⟩) l.length cap ∧ l.length ≤ cap ∧ base ≤ g ∧ Blk w g cur 35 ∧ l.length * 10 ≤ cur.size ∧ ∀ j, j < l.length * 10 → cur[j]? = (flat10 l)[j]? := by
  obtain ⟨q1, ⟨_, hn⟩ | ⟨g, cap, cur, hv, hb, hg, hc, hm, hs, ht⟩⟩ := h
  · omega
  · have hsz : l.length * 10 ≤ cur.size := by rw [hs]; exact Nat.mul_le_mul_right 10 hc
    refine ⟨g, cap, cur, hv, hc, hb, hg, hsz, fun j hj => ?_⟩
    rw [← ht, List.getElem?_take, if_pos hj]; simp
end Go.Proofs.YtcgjmnhmhiddkaaDoor
/- Rows of numbers in memory, that a call owns; where what is appended to stands. -/
namespace Go.Proofs.YtcgjmnhmhiddkaaDoor
open Go Go.RowKit
set_option linter.unusedVariables false

def intsV (l : List Int) : List Value := l.map fun c : Int => Value.int .i64 c
theorem intsV_snoc (l : List Int) (c : Int) : intsV (l ++ [c]) = intsV l ++ [.int .i64 c] := by simp [intsV]
theorem intsV_length (l : List Int) : (intsV l).length = l.length := by simp [intsV]
/-- A row of numbers that is read. -/
def IRow (w : World) (a : Option Addr) (l : List Int) : Prop :=
  ∀ i, i < l.length → ∃ b off, a = some ⟨b, off, none⟩ ∧ b < w.heap.size ∧ w.cell? ⟨b, off + i, none⟩ = some (.int .i64 (l.getD i 0))
theorem IRow.later {w w' : World} {a : Option Addr} {l : List Int} (h : IRow w a l) (hb : Below w.heap.size w w') : IRow w' a l := fun i hi => by
  obtain ⟨b, off, ha, hlt, hc⟩ := h i hi
  exact ⟨b, off, ha, Nat.lt_of_lt_of_le hlt hb.size, (hb.cell (p := ⟨b, off + i, none⟩) hlt).trans hc⟩
def OwnI (w : World) (base : Nat) (v : Value) (l : List Int) : Prop := w.ownsRow base 3 1 v l.length (intsV l)
theorem OwnI.nil (w : World) (base : Nat) : OwnI w base (.slice none 0 0) [] := ⟨rfl, .inl ⟨rfl, rfl⟩⟩
theorem OwnI.later {w w' : World} {base : Nat} {v : Value} {l : List Int} (h : OwnI w base v l) (hb : Below w.heap.size w w') : OwnI w' base v l := ownsRow_later h hb
theorem OwnI.row {w : World} {base : Nat} {v : Value} {l : List Int} (h : OwnI w base v l) : ∃ a cap, v = .slice a l.length cap ∧ IRow w a l := by
  obtain ⟨_, ⟨hv, hn⟩ | ⟨g, cap, cur, hv, hb, hg, hc, hm, hs, ht⟩⟩ := h
  · have : l = [] := List.length_eq_zero_iff.1 hn
    subst this
    exact ⟨none, 0, hv, fun i hi => by simp at hi⟩
  · refine ⟨_, cap, hv, fun i hi => ⟨g, 0, rfl, Blk.lt (w := w) (b := g) (vs := cur) (t := 3) hg, ?_⟩⟩
    rw [Blk.cell (w := w) (b := g) (vs := cur) (t := 3) hg]
    have : (intsV l)[i]? = some (.int .i64 (l.getD i 0)) := by unfold intsV; simp [hi]
    rw [← this, ← ht, List.getElem?_take, if_pos (by omega)]
    simp
/-- Without its last number it stands where it did. -/
theorem OwnI.drop {w : World} {base : Nat} {v : Value} {l : List Int} (h : OwnI w base v l) (hl : 0 < l.length) : ∃ g cap, v = .slice (some ⟨g, 0, none⟩) l.length cap ∧ l.length ≤ cap ∧ g < w.heap.size ∧ OwnI w base (.slice (some ⟨g, 0, none⟩) (l.length - 1) cap) l.dropLast := by
  obtain ⟨_, ⟨hv, hn⟩ | ⟨g, cap, cur, hv, hb, hg, hc, hm, hs, ht⟩⟩ := h
  · omega
  · refine ⟨g, cap, hv, hc, Blk.lt (w := w) (b := g) (vs := cur) (t := 3) hg, by simp [intsV], .inr ⟨g, cap, cur, by simp, hb, hg, by simp; omega, hm, hs, ?_⟩⟩
    rw [List.length_dropLast, Nat.mul_one]
    have e : cur.toList.take (l.length - 1) = (cur.toList.take (l.length * 1)).take (l.length - 1) := by rw [List.take_take]; congr 1; omega
    rw [e, ht]; unfold intsV
    rw [← List.map_take, ← List.dropLast_eq_take]
theorem infoI : (Tryd.prog.info? 3).map (fun i => (i.zero, i.size, i.bytes)) = some (some (.int .i64 0), 1, 8) := by kernel_rfl
set_option maxRecDepth 100000 in
/-- An append of a number to a row of its own: other blocks stay, and it stands where it did, or in new memory. -/
theorem wp_append_int {w : World} {o : Oper} {a : Act} {K : Act → World → Prop} {Q : Exit → Act → World → Prop} (s x : Operand)
    (ho : o.op = .call { callee := .builtin .append, args := #[s, x], argTypes := #[38, 38] })
    (base : Nat) (v : Value) (l : List Int) (hs : a.eval s = v) (hown : OwnI w base v l)
    (b : Nat) (c : Int) (hx : a.eval x = .slice (some ⟨b, 0, none⟩) 1 1) (hnew : Blk w b #[.int .i64 c] 3) (hlen : l.length < 1073741824) (hbase : base ≤ w.heap.size)
    (h : ∀ v' w', OwnI w' base v' (l ++ [c]) → w.grownBy w' v.ownBlock → (v'.ownBlock = v.ownBlock ∨ ∃ g', v'.ownBlock = some g' ∧ w.heap.size ≤ g') → K (a.put o.dst v') w') : o.wp Tryd.prog a w K Q := by
  obtain ⟨ib, hib, hz0, hz1, hz2⟩ := info_parts infoI
  have hnews : ∀ (j : Nat) (u : Value), [Value.int .i64 c][j]? = some u → w.cell? ((⟨b, 0, none⟩ : Addr).add j) = some u := by
    intro j u hu
    cases j with
    | zero => simp at hu; subst hu; exact hnew.cell 0
    | succ j => simp at hu
  have hone : ∀ u ∈ [Value.int .i64 c], u.oneCell' = true := by simp [Value.oneCell']
  obtain ⟨v', w', hr, h2, h3, _⟩ := run_append_own (P := Tryd.prog) w base 38 o.type 3 ib _ 1 8 Tryd.underlying38 hib hz0 hz1 hz2 rfl (by decide) v l.length (intsV l) hown ⟨b, 0, none⟩ 1 1 [.int .i64 c] rfl hnews hone (by unfold maxLen; omega) (by omega) hbase
  have h2' : OwnI w' base v' (l ++ [c]) := by unfold OwnI; rw [List.length_append, intsV_snoc]; exact h2
  have place : v'.ownBlock = v.ownBlock ∨ ∃ g', v'.ownBlock = some g' ∧ w.heap.size ≤ g' := by
    rcases hown.2 with ⟨rfl, hn⟩ | ⟨g', cap, cur, rfl, hbg, hgg, hnc, hcm, hcs, htake⟩
    · have hl0 : l = [] := List.length_eq_zero_iff.1 hn
      subst hl0
      obtain ⟨v2, w2, hr2, h4, _, _⟩ := run_append_own (P := Tryd.prog) w w.heap.size 38 o.type 3 ib _ 1 8 Tryd.underlying38 hib hz0 hz1 hz2 rfl (by decide) (.slice none 0 0) 0 [] ⟨rfl, .inl ⟨rfl, rfl⟩⟩ ⟨b, 0, none⟩ 1 1 [.int .i64 c] rfl hnews hone (by unfold maxLen; omega) (by omega) (Nat.le_refl _)
      rw [hr] at hr2
      simp only [Result.ok.injEq] at hr2
      obtain ⟨rfl, rfl⟩ := hr2
      rcases h4.2 with ⟨_, h5⟩ | ⟨g2, cap2, cur2, hv, hb2, _⟩
      · omega
      · exact .inr ⟨g2, by rw [hv]; rfl, hb2⟩
    · by_cases hroom : l.length + 1 ≤ cap
      · have hr2 := run_append_room (P := Tryd.prog) w 38 o.type 3 ib Tryd.underlying38 hib g' l.length cap cur hgg ⟨b, 0, none⟩ 1 1 [.int .i64 c] (by rw [hz1]; rfl) hnews hone hroom (by rw [hz1, hcs]; simp; omega)
        rw [hr] at hr2
        simp only [Result.ok.injEq] at hr2
        exact .inl (by rw [hr2.1]; rfl)
      · have holds := World.ownsRow.cells (w := w) (base := base) (e := 3) (size := 1) (v := .slice (some ⟨g', 0, none⟩) l.length cap) (n := l.length) (xs := intsV l) hown (g := g') rfl
        have hr2 := run_append_grow (P := Tryd.prog) w 38 o.type 3 ib _ Tryd.underlying38 hib hz0 ⟨g', 0, none⟩ l.length cap (intsV l) (by rw [hz1, intsV_length, Nat.mul_one]) holds ⟨b, 0, none⟩ 1 1 [.int .i64 c] (by rw [hz1]; rfl) hnews (by omega) (by omega) (by rw [hz2]; exact growslice_fits (by omega) (by omega))
        rw [hr] at hr2
        simp only [Result.ok.injEq] at hr2
        exact .inr ⟨w.heap.size, by rw [hr2.1]; rfl, Nat.le_refl _⟩
  unfold Oper.wp execOp
  simp only [ho, resolve, invoke, builtin, Sem.run_bind, Sem.run_pure, Result.andThen_ok, List.map_toArray, List.map_cons, List.map_nil, hs, hx, hr]
  exact h v' w' h2' h3 place
theorem wpList_append_int {w : World} {ops : Array Oper} {rest : List Oper} {o : Oper} {a : Act} {Q : Exit → Act → World → Prop} (hgd : o.guard = none) (s x : Operand)
    (ho : o.op = .call { callee := .builtin .append, args := #[s, x], argTypes := #[38, 38] })
    (base : Nat) (v : Value) (l : List Int) (hs : a.eval s = v) (hown : OwnI w base v l)
    (b : Nat) (c : Int) (hx : a.eval x = .slice (some ⟨b, 0, none⟩) 1 1) (hnew : Blk w b #[.int .i64 c] 3) (hlen : l.length < 1073741824) (hbase : base ≤ w.heap.size)
    (h : ∀ v' w', OwnI w' base v' (l ++ [c]) → w.grownBy w' v.ownBlock → (v'.ownBlock = v.ownBlock ∨ ∃ g', v'.ownBlock = some g' ∧ w.heap.size ≤ g') → wpList Tryd.prog ops Q rest (a.put o.dst v') w') : wpList Tryd.prog ops Q (o :: rest) a w :=
  wpList_plain hgd fun K hK => wp_append_int s x ho base v l hs hown b c hx hnew hlen hbase fun v' w' h1 h2 h3 => hK _ _ (h v' w' h1 h2 h3)
end Go.Proofs.YtcgjmnhmhiddkaaDoor
/- The parser's fault: walked. -/
namespace Go.Proofs.YtcgjmnhmhiddkaaDoor
open Go Go.RowKit
set_option linter.unusedVariables false
set_option linter.unusedSimpArgs false

/-- The value of a fault. -/
def ftV (e p : Int) : Value := .agg #[.int .i64 e, .int .i64 p]
structure FtS (w0 : World) (pb : Nat) (cs : Array Value) (A : Option Addr) (l : List Tk) (O : Option Addr) (o : List Int) (w : World) : Prop where
  bel : Below w0.heap.size w0 w
  blk : Blk w pb cs 65
  row : TkRow w A l
  opn : IRow w O o
  box : Blk w w0.heap.size #[.int .i64 0, .int .i64 0] 67
theorem FtS.later {w0 : World} {pb : Nat} {cs : Array Value} {A : Option Addr} {l : List Tk} {O : Option Addr} {o : List Int} {w w' : World} (h : FtS w0 pb cs A l O o w) (hb : Below w.heap.size w w') : FtS w0 pb cs A l O o w' :=
  ⟨h.bel.trans (hb.mono h.bel.size), h.blk.later hb, h.row.later hb, h.opn.later hb, h.box.later hb⟩
set_option maxHeartbeats 4000000 in
set_option maxRecDepth 100000 in
theorem fault_any (l : List Tk) (A O : Option Addr) (cp oc : Nat) (s : PS) (v3 v4 v5 : Value) (pb : Nat) (w : World) (hb : Blk w pb #[.slice A l.length cp, .int .i64 (s.read : Int), .slice O s.opn.length oc, v3, v4, v5] 65) (hr : TkRow w A l) (ho : IRow w O s.opn) (hl : l.length ≤ 1073741824) (hrd : s.read ≤ 1073741824) (hol : s.opn.length ≤ 1073741824) (e p : Int) (hf : faultP l s = .bad e p) :
    Calls Tryd.prog 43 #[.pointer (some ⟨pb, 0, none⟩)] w (Ans w (ftV e p)) := by
  have hB := (Below.refl w.heap.size w).alloc (Nat.le_refl _) (.cells #[.int .i64 0, .int .i64 0] 67)
  have HX : Hid (FtS w pb #[.slice A l.length cp, .int .i64 (s.read : Int), .slice O s.opn.length oc, v3, v4, v5] A l O s.opn (w.alloc (.cells #[.int .i64 0, .int .i64 0] 67))) :=
    ⟨hB, hb.alloc _, hr.later hB, ho.later hB, Blk.new w _ _⟩
  have FT : Hid (∀ w', FtS w pb #[.slice A l.length cp, .int .i64 (s.read : Int), .slice O s.opn.length oc, v3, v4, v5] A l O s.opn w' → Calls Tryd.prog 41 #[.pointer (some ⟨pb, 0, none⟩)] w' (Ans w' (.agg (tkC (tkAt l s.read))))) :=
    fun w' h => token_any l A cp s.read _ v3 v4 v5 pb w' h.blk h.row hl hrd
  have hlt0 := hb.lt
  have HFP := Lib.hid hf
  clear hb hr ho hB hf
  unfold faultP at HFP
  generalize tkAt l s.read = x at *
  obtain ⟨o, hoo⟩ : ∃ o, s.opn = o := ⟨_, rfl⟩
  rw [hoo] at HX FT HFP hol
  generalize s.read = r at *
  clear hoo
  go_enter Tryd.func43, Tryd.ntmps43
  go_upto_region 1 with (fail)
  generalize w.alloc (.cells #[.int .i64 0, .int .i64 0] 67) = w1 at *
  go_wp2_with fail
  refine (FT.out _ HX.out).mono ?_; rintro e1 w2 ⟨rfl, hb2⟩
  have HX2 := Lib.hid (HX.out.later hb2)
  clear hb2
  have hk9 := Lib.hid (Blk.new w2 (tkC x) 61)
  have hb9 := Lib.hid ((Below.refl w2.heap.size w2).alloc (Nat.le_refl _) (.cells (tkC x) 61))
  unfold tkC at *
  go_upto_region 2 with (fail)
  generalize w2.alloc (.cells #[.int .i64 x.kind, .int .i64 x.at_, .int .u64 (wd x.cls 0), .int .u64 (wd x.cls 1), .int .u64 (wd x.cls 2), .int .u64 (wd x.cls 3), .string (bs x.text), .int .i64 x.lo, .int .i64 x.hi] 61) = w3 at *
  have HX3 := Lib.hid (HX2.out.later hb9.out)
  clear hb9 HX HX2 FT
  generalize w2.heap.size = tb at *
  obtain ⟨t0, t1, -, -, -, -, -, -, -⟩ := nine_cells hk9.out
  clear hk9
  have f0 := HX3.out.box.cell 0
  have f1 := HX3.out.box.cell 1
  have nf := HX3.out.box.frozen
  have c2 := HX3.out.blk.cell 2
  simp at f0 f1 c2
  have p0 : ∀ v0 : Value, (w3.setCell ⟨w.heap.size, 0, none⟩ v0).cell? ⟨w.heap.size, 0, none⟩ = some v0 := fun v => HX3.out.box.put (by simp) v
  have p1 : ∀ v0 v1 : Value, ((w3.setCell ⟨w.heap.size, 0, none⟩ v0).setCell ⟨w.heap.size, 1, none⟩ v1).cell? ⟨w.heap.size, 1, none⟩ = some v1 := fun v v' => (HX3.out.box.setCell 0 v).put (by simp) v'
  have PE := Lib.hid (fun (u v : Value) => And.intro (((HX3.out.box.setCell 0 u).setCell 1 v).cell 0) (((HX3.out.box.setCell 0 u).setCell 1 v).cell 1))
  have BE := Lib.hid (fun (u v : Value) => (HX3.out.bel.setCell (p := ⟨w.heap.size, 0, none⟩) (Nat.le_refl _) u).setCell (p := ⟨w.heap.size, 1, none⟩) (Nat.le_refl _) v)
  by_cases hk : x.kind = 10
  · have hkb : (x.kind == 10) = true := by rw [hk]; rfl
    have hkd : decide (x.kind = 10) = true := decide_eq_true hk
    rcases List.eq_nil_or_concat o with ho | ⟨o', z, ho⟩
    · subst ho
      have HV : Hid (e = 7 ∧ p = x.at_) := by
        have := HFP.out
        rw [hk] at this
        simp at this
        exact ⟨this.1.symm, this.2.symm⟩
      go_wp2
      obtain ⟨z0, z1⟩ := PE.out (.int .i64 7) (.int .i64 x.at_)
      simp at z0 z1
      exact bodyPost_ret (v := ftV 7 x.at_) (by simp [results, Tryd.results43, go_sem, ftV, z0, z1]) rfl ⟨by rw [HV.out.1, HV.out.2], BE.out _ _⟩
    · have HV : Hid (e = 6 ∧ p = z) := by
        have := HFP.out
        rw [hk, ho] at this
        simp at this
        exact ⟨this.1.symm, this.2.symm⟩
      obtain ⟨n, hn⟩ : ∃ n, n = o'.length := ⟨_, rfl⟩
      have hon : o.length = n + 1 := by rw [ho, hn]; simp
      have hrd2 := HX3.out.opn n (by omega)
      obtain ⟨bo, oo, rfl, -, hc⟩ := hrd2
      have hz : o.getD n 0 = z := by rw [ho, hn]; simp
      rw [hz] at hc
      rw [hon] at c2
      have hnb : n ≤ 1073741823 := by omega
      have hnb2 : (n : Int) ≤ 1073741823 := by omega
      have hnw : wrap64 (n : Int) = (n : Int) := by unfold wrap64; omega
      clear hz ho hn hol
      have hc' : w3.cell? ⟨bo, oo + n, none⟩ = some (.int .i64 z) := hc
      have hge : decide ((n : Int) + 1 - 1 ≥ 0) = true := decide_eq_true (by omega)
      have hge2 : decide ((n : Int) ≥ 0) = true := decide_eq_true (by omega)
      have hge3 : decide (0 ≤ (n : Int)) = true := decide_eq_true (by omega)
      have hge4 : (0 : Int) ≤ (n : Int) := by omega
      have hcast : ((n + 1 : Nat) : Int) - 1 = (n : Int) := by omega
      have hn1 : n < n + 1 := by omega
      go_wp2
      obtain ⟨z0, z1⟩ := PE.out (.int .i64 6) (.int .i64 z)
      simp at z0 z1
      exact bodyPost_ret (v := ftV 6 z) (by simp [results, Tryd.results43, go_sem, ftV, z0, z1]) rfl ⟨by rw [HV.out.1, HV.out.2], BE.out _ _⟩
  · have hkb : (x.kind == 10) = false := beq_false_of_ne hk
    have hkd : decide (x.kind = 10) = false := decide_eq_false hk
    have HV : Hid (e = 7 ∧ p = x.at_) := by
      have := HFP.out
      split at this
      · rename_i h10 _; exact absurd h10 hk
      · cases this; exact ⟨rfl, rfl⟩
    go_wp2
    obtain ⟨z0, z1⟩ := PE.out (.int .i64 7) (.int .i64 x.at_)
    simp at z0 z1
    exact bodyPost_ret (v := ftV 7 x.at_) (by simp [results, Tryd.results43, go_sem, ftV, z0, z1]) rfl ⟨by rw [HV.out.1, HV.out.2], BE.out _ _⟩
end Go.Proofs.YtcgjmnhmhiddkaaDoor
