/- The document's nodes moved, parts, wholes: walked. -/
import Derived.Test.YtcgjmnhmhiddkaaGreatDoorM15
import Derived.Test.YtcgjmnhmhiddkaaGreatDoorM11
import Derived.Test.YtcgjmnhmhiddkaaGreatDoorM05
namespace Go.Proofs.YtcgjmnhmhiddkaaGreatDoor
open Go Go.RowKit
set_option linter.unusedVariables false
set_option linter.unusedSimpArgs false

end Go.Proofs.YtcgjmnhmhiddkaaGreatDoor
/- Rows of nodes appended whole; a cell of a row stored to. -/
namespace Go.Proofs.YtcgjmnhmhiddkaaGreatDoor
open Go Go.RowKit
set_option linter.unusedVariables false

theorem flat10_ones : ∀ (l : List Nd) (u : Value), u ∈ flat10 l → u.oneCell' = true
  | [], u, h => by simp [flat10] at h
  | t :: l, u, h => by
    simp only [flat10, List.mem_append] at h
    rcases h with h | h
    · simp only [ndC, List.mem_cons, List.not_mem_nil, or_false] at h
      rcases h with rfl | rfl | rfl | rfl | rfl | rfl | rfl | rfl | rfl | rfl <;> rfl
    · exact flat10_ones l u h
theorem NRow.news {w : World} {b oo : Nat} {r : List Nd} (hr : NRow w (some ⟨b, oo, none⟩) r) : ∀ (j : Nat) (u : Value), (flat10 r)[j]? = some u → w.cell? ((⟨b, oo, none⟩ : Addr).add j) = some u := by
  intro j u hu
  have hadd : (⟨b, oo, none⟩ : Addr).add j = ⟨b, oo + j, none⟩ := by unfold Addr.add; split <;> simp_all
  have hj : j < r.length * 10 := by
    rw [← flat10_length]; exact (List.getElem?_eq_some_iff.1 hu).1
  obtain ⟨b', o', h1, _, h3⟩ := hr (j / 10) (by omega)
  cases h1
  have := h3 (j % 10) (by omega)
  rw [← flat10_get r (j / 10) (j % 10) (by omega) (by omega), show j / 10 * 10 + j % 10 = j by omega, hu] at this
  rw [hadd, ← this]; congr 2; omega
theorem OwnN.empty {w : World} {base b : Nat} (h : Blk w b #[] 44) (hb : base ≤ b) : OwnN w base (.slice (some ⟨b, 0, none⟩) 0 0) [] :=
  ⟨rfl, .inr ⟨b, 0, #[], rfl, hb, h, Nat.le_refl _, Nat.zero_le _, rfl, rfl⟩⟩
/-- What is owned stands in one block from its beginning. -/
theorem OwnN.blk {w : World} {base : Nat} {v : Value} {l : List Nd} (h : OwnN w base v l) (hne : 0 < l.length) :
    ∃ g cap cur, v = .slice (some ⟨g, 0, none⟩) l.length cap ∧ l.length ≤ cap ∧ base ≤ g ∧ Blk w g cur 44 ∧ l.length * 10 ≤ cur.size ∧ ∀ j, j < l.length * 10 → cur[j]? = (flat10 l)[j]? := by
  obtain ⟨q1, ⟨_, hn⟩ | ⟨g, cap, cur, hv, hb, hg, hc, hm, hs, ht⟩⟩ := h
  · omega
  · have hsz : l.length * 10 ≤ cur.size := by rw [hs]; exact Nat.mul_le_mul_right 10 hc
    refine ⟨g, cap, cur, hv, hc, hb, hg, hsz, fun j hj => ?_⟩
    rw [← ht, List.getElem?_take, if_pos hj]; simp
end Go.Proofs.YtcgjmnhmhiddkaaGreatDoor
/- Rows of numbers in memory, that a call owns; where what is appended to stands. -/
namespace Go.Proofs.YtcgjmnhmhiddkaaGreatDoor
open Go Go.RowKit
set_option linter.unusedVariables false

def intsV (l : List Int) : List Value := l.map fun c : Int => Value.int .i64 c
theorem intsV_snoc (l : List Int) (c : Int) : intsV (l ++ [c]) = intsV l ++ [.int .i64 c] := by simp [intsV]
theorem intsV_length (l : List Int) : (intsV l).length = l.length := by simp [intsV]
/-- A row of numbers that is read. -/
def IRow (w : World) (a : Option Addr) (l : List Int) : Prop :=
  ∀ i, i < l.length → ∃ b off, a = some ⟨b, off, none⟩ ∧ b < w.heap.size ∧ w.cell? ⟨b, off + i, none⟩ = some (.int .i64 (l.getD i 0))
theorem IRow.later {w w' : World} {a : Option Addr} {l : List Int} (h : IRow w a l) (hb : Below w.heap.size w w') : IRow w' a l := fun i hi => by
  obtain ⟨b, off, ha, hlt, hc⟩ := h i hi
  exact ⟨b, off, ha, Nat.lt_of_lt_of_le hlt hb.size, (hb.cell (p := ⟨b, off + i, none⟩) hlt).trans hc⟩
def OwnI (w : World) (base : Nat) (v : Value) (l : List Int) : Prop := w.ownsRow base 3 1 v l.length (intsV l)
theorem OwnI.nil (w : World) (base : Nat) : OwnI w base (.slice none 0 0) [] := ⟨rfl, .inl ⟨rfl, rfl⟩⟩
theorem OwnI.later {w w' : World} {base : Nat} {v : Value} {l : List Int} (h : OwnI w base v l) (hb : Below w.heap.size w w') : OwnI w' base v l := ownsRow_later h hb
theorem OwnI.row {w : World} {base : Nat} {v : Value} {l : List Int} (h : OwnI w base v l) : ∃ a cap, v = .slice a l.length cap ∧ IRow w a l := by
  obtain ⟨_, ⟨hv, hn⟩ | ⟨g, cap, cur, hv, hb, hg, hc, hm, hs, ht⟩⟩ := h
  · have : l = [] := List.length_eq_zero_iff.1 hn
    subst this
    exact ⟨none, 0, hv, fun i hi => by simp at hi⟩
  · refine ⟨_, cap, hv, fun i hi => ⟨g, 0, rfl, Blk.lt (w := w) (b := g) (vs := cur) (t := 3) hg, ?_⟩⟩
    rw [Blk.cell (w := w) (b := g) (vs := cur) (t := 3) hg]
    have : (intsV l)[i]? = some (.int .i64 (l.getD i 0)) := by unfold intsV; simp [hi]
    rw [← this, ← ht, List.getElem?_take, if_pos (by omega)]
    simp
/-- Without its last number it stands where it did. -/
theorem OwnI.drop {w : World} {base : Nat} {v : Value} {l : List Int} (h : OwnI w base v l) (hl : 0 < l.length) : ∃ g cap, v = .slice (some ⟨g, 0, none⟩) l.length cap ∧ l.length ≤ cap ∧ g < w.heap.size ∧ OwnI w base (.slice (some ⟨g, 0, none⟩) (l.length - 1) cap) l.dropLast := by
  obtain ⟨_, ⟨hv, hn⟩ | ⟨g, cap, cur, hv, hb, hg, hc, hm, hs, ht⟩⟩ := h
  · omega
  · refine ⟨g, cap, hv, hc, Blk.lt (w := w) (b := g) (vs := cur) (t := 3) hg, by simp [intsV], .inr ⟨g, cap, cur, by simp, hb, hg, by simp; omega, hm, hs, ?_⟩⟩
    rw [List.length_dropLast, Nat.mul_one]
    have e : cur.toList.take (l.length - 1) = (cur.toList.take (l.length * 1)).take (l.length - 1) := by rw [List.take_take]; congr 1; omega
    rw [e, ht]; unfold intsV
    rw [← List.map_take, ← List.dropLast_eq_take]
theorem infoI : (Tryz.prog.info? 3).map (fun i => (i.zero, i.size, i.bytes)) = some (some (.int .i64 0), 1, 8) := by kernel_rfl
set_option maxRecDepth 100000 in
/-- An append of a number to a row of its own: other blocks stay, and it stands where it did, or in new memory. -/
theorem wp_append_int {w : World} {o : Oper} {a : Act} {K : Act → World → Prop} {Q : Exit → Act → World → Prop} (s x : Operand)
    (ho : o.op = .call { callee := .builtin .append, args := #[s, x], argTypes := #[46, 46] })
    (base : Nat) (v : Value) (l : List Int) (hs : a.eval s = v) (hown : OwnI w base v l)
    (b : Nat) (c : Int) (hx : a.eval x = .slice (some ⟨b, 0, none⟩) 1 1) (hnew : Blk w b #[.int .i64 c] 3) (hlen : l.length < 1073741824) (hbase : base ≤ w.heap.size)
    (h : ∀ v' w', OwnI w' base v' (l ++ [c]) → w.grownBy w' v.ownBlock → (v'.ownBlock = v.ownBlock ∨ ∃ g', v'.ownBlock = some g' ∧ w.heap.size ≤ g') → K (a.put o.dst v') w') : o.wp Tryz.prog a w K Q := by
  obtain ⟨ib, hib, hz0, hz1, hz2⟩ := info_parts infoI
  have hnews : ∀ (j : Nat) (u : Value), [Value.int .i64 c][j]? = some u → w.cell? ((⟨b, 0, none⟩ : Addr).add j) = some u := by
    intro j u hu
    cases j with
    | zero => simp at hu; subst hu; exact hnew.cell 0
    | succ j => simp at hu
  have hone : ∀ u ∈ [Value.int .i64 c], u.oneCell' = true := by simp [Value.oneCell']
  obtain ⟨v', w', hr, h2, h3, _⟩ := run_append_own (P := Tryz.prog) w base 46 o.type 3 ib _ 1 8 Tryz.underlying46 hib hz0 hz1 hz2 rfl (by decide) v l.length (intsV l) hown ⟨b, 0, none⟩ 1 1 [.int .i64 c] rfl hnews hone (by unfold maxLen; omega) (by omega) hbase
  have h2' : OwnI w' base v' (l ++ [c]) := by unfold OwnI; rw [List.length_append, intsV_snoc]; exact h2
  have place : v'.ownBlock = v.ownBlock ∨ ∃ g', v'.ownBlock = some g' ∧ w.heap.size ≤ g' := by
    rcases hown.2 with ⟨rfl, hn⟩ | ⟨g', cap, cur, rfl, hbg, hgg, hnc, hcm, hcs, htake⟩
    · have hl0 : l = [] := List.length_eq_zero_iff.1 hn
      subst hl0
      obtain ⟨v2, w2, hr2, h4, _, _⟩ := run_append_own (P := Tryz.prog) w w.heap.size 46 o.type 3 ib _ 1 8 Tryz.underlying46 hib hz0 hz1 hz2 rfl (by decide) (.slice none 0 0) 0 [] ⟨rfl, .inl ⟨rfl, rfl⟩⟩ ⟨b, 0, none⟩ 1 1 [.int .i64 c] rfl hnews hone (by unfold maxLen; omega) (by omega) (Nat.le_refl _)
      rw [hr] at hr2
      simp only [Result.ok.injEq] at hr2
      obtain ⟨rfl, rfl⟩ := hr2
      rcases h4.2 with ⟨_, h5⟩ | ⟨g2, cap2, cur2, hv, hb2, _⟩
      · omega
      · exact .inr ⟨g2, by rw [hv]; rfl, hb2⟩
    · by_cases hroom : l.length + 1 ≤ cap
      · have hr2 := run_append_room (P := Tryz.prog) w 46 o.type 3 ib Tryz.underlying46 hib g' l.length cap cur hgg ⟨b, 0, none⟩ 1 1 [.int .i64 c] (by rw [hz1]; rfl) hnews hone hroom (by rw [hz1, hcs]; simp; omega)
        rw [hr] at hr2
        simp only [Result.ok.injEq] at hr2
        exact .inl (by rw [hr2.1]; rfl)
      · have holds := World.ownsRow.cells (w := w) (base := base) (e := 3) (size := 1) (v := .slice (some ⟨g', 0, none⟩) l.length cap) (n := l.length) (xs := intsV l) hown (g := g') rfl
        have hr2 := run_append_grow (P := Tryz.prog) w 46 o.type 3 ib _ Tryz.underlying46 hib hz0 ⟨g', 0, none⟩ l.length cap (intsV l) (by rw [hz1, intsV_length, Nat.mul_one]) holds ⟨b, 0, none⟩ 1 1 [.int .i64 c] (by rw [hz1]; rfl) hnews (by omega) (by omega) (by rw [hz2]; exact growslice_fits (by omega) (by omega))
        rw [hr] at hr2
        simp only [Result.ok.injEq] at hr2
        exact .inr ⟨w.heap.size, by rw [hr2.1]; rfl, Nat.le_refl _⟩
  unfold Oper.wp execOp
  simp only [ho, resolve, invoke, builtin, Sem.run_bind, Sem.run_pure, Result.andThen_ok, List.map_toArray, List.map_cons, List.map_nil, hs, hx, hr]
  exact h v' w' h2' h3 place
theorem wpList_append_int {w : World} {ops : Array Oper} {rest : List Oper} {o : Oper} {a : Act} {Q : Exit → Act → World → Prop} (hgd : o.guard = none) (s x : Operand)
    (ho : o.op = .call { callee := .builtin .append, args := #[s, x], argTypes := #[46, 46] })
    (base : Nat) (v : Value) (l : List Int) (hs : a.eval s = v) (hown : OwnI w base v l)
    (b : Nat) (c : Int) (hx : a.eval x = .slice (some ⟨b, 0, none⟩) 1 1) (hnew : Blk w b #[.int .i64 c] 3) (hlen : l.length < 1073741824) (hbase : base ≤ w.heap.size)
    (h : ∀ v' w', OwnI w' base v' (l ++ [c]) → w.grownBy w' v.ownBlock → (v'.ownBlock = v.ownBlock ∨ ∃ g', v'.ownBlock = some g' ∧ w.heap.size ≤ g') → wpList Tryz.prog ops Q rest (a.put o.dst v') w') : wpList Tryz.prog ops Q (o :: rest) a w :=
  wpList_plain hgd fun K hK => wp_append_int s x ho base v l hs hown b c hx hnew hlen hbase fun v' w' h1 h2 h3 => hK _ _ (h v' w' h1 h2 h3)
end Go.Proofs.YtcgjmnhmhiddkaaGreatDoor
/- Descriptions as text: the machine that tells the pieces, and what it tells: plain mathematics. -/
namespace Go.Proofs.YtcgjmnhmhiddkaaGreatDoor
open Go
set_option linter.unusedVariables false
set_option linter.unusedSimpArgs false

/-- A piece of a text: signs, or a node's text at a level. -/
inductive Pc where
  | sg (s : List UInt8)
  | nd (i : Int) (lev : Int)
def levK (k : Int) : Int := if k = 5 then 0 else if k = 4 then 1 else if k = 6 ∨ k = 7 then 2 else 3
def brk (l : List Pc) : List Pc := .sg [40] :: (l ++ [.sg [41]])
section
/- cT: a class' text; bT: a repeat's bounds. -/
variable (cT : BitVec 256 → List UInt8) (bT : Int → Int → List UInt8)
def pcsN (n : Nd) : List Pc :=
  if n.kind = 1 then brk []
  else if n.kind = 2 then [.sg (cT n.cls)]
  else if n.kind = 3 then [.sg (34 :: (n.text ++ [34]))]
  else if n.kind = 4 then [.nd n.a 1, .nd n.b 2]
  else if n.kind = 5 then [.nd n.a 0, .sg [124], .nd n.b 1]
  else if n.kind = 6 then [.nd n.a 2, .sg [42]]
  else if n.kind = 7 then [.nd n.a 2, .sg (bT n.lo n.hi)]
  else if n.kind = 8 then .sg [98] :: brk [.nd n.a 0]
  else .sg [119] :: brk [.nd n.a 0]
def fullN (n : Nd) (lev : Int) : List Pc := if levK n.kind < lev then brk (pcsN cT bT n) else pcsN cT bT n
/-- What is told of pieces, so many steps long; 'told' are the nodes that were met. -/
def eachR (l : List Nd) : Nat → (Nat → Bool) → List Pc → Option (List (List UInt8))
  | 0, _, _ => none
  | _ + 1, _, [] => some []
  | n + 1, told, .sg s :: r => (eachR l n told r).map (s :: ·)
  | n + 1, told, .nd i lev :: r =>
    if 0 ≤ i ∧ i < (l.length : Int) ∧ told i.toNat = false ∧ 1 ≤ (atN l i.toNat).kind ∧ (atN l i.toNat).kind ≤ 9 then
      eachR l n (fun j => decide (j = i.toNat) || told j) (fullN cT bT (atN l i.toNat) lev ++ r)
    else none
/-- What a node tells. -/
def sgsF (l : List Nd) : Nat → Int → Int → List (List UInt8)
  | 0, _, _ => []
  | f + 1, i, lev => (fullN cT bT (atN l i.toNat) lev).flatMap fun p => match p with
    | .sg s => [s]
    | .nd j lv => sgsF l f j lv
/-- Some pieces are told, whatever stands behind them. -/
def Told (l : List Nd) (told : Nat → Bool) (ps : List Pc) (out : List (List UInt8)) (told' : Nat → Bool) : Prop := ∃ k, ∀ n r, eachR cT bT l (n + k) told (ps ++ r) = (eachR cT bT l n told' r).map (out ++ ·)
variable {cT bT}
theorem Told.nil {l : List Nd} {told : Nat → Bool} : Told cT bT l told [] [] told := ⟨0, fun n r => by simp⟩
theorem Told.sg {l : List Nd} {told told' : Nat → Bool} {s : List UInt8} {ps : List Pc} {out : List (List UInt8)} (h : Told cT bT l told ps out told') : Told cT bT l told (.sg s :: ps) (s :: out) told' := by
  obtain ⟨k, hk⟩ := h
  refine ⟨k + 1, fun n r => ?_⟩
  show (eachR cT bT l (n + k) told (ps ++ r)).map (s :: ·) = _
  rw [hk]; cases eachR cT bT l n told' r <;> simp
theorem Told.append {l : List Nd} {t1 t2 t3 : Nat → Bool} {ps qs : List Pc} {o1 o2 : List (List UInt8)} (h : Told cT bT l t1 ps o1 t2) (k : Told cT bT l t2 qs o2 t3) : Told cT bT l t1 (ps ++ qs) (o1 ++ o2) t3 := by
  obtain ⟨a, ha⟩ := h
  obtain ⟨b, hb⟩ := k
  refine ⟨b + a, fun n r => ?_⟩
  rw [show n + (b + a) = (n + b) + a by omega, List.append_assoc, ha, hb]
  cases eachR cT bT l n t3 r <;> simp
theorem Told.node {l : List Nd} {t1 t2 : Nat → Bool} {i lev : Int} {out : List (List UInt8)} (h0 : 0 ≤ i) (h1 : i < (l.length : Int)) (ht : t1 i.toNat = false) (hk : 1 ≤ (atN l i.toNat).kind ∧ (atN l i.toNat).kind ≤ 9) (h : Told cT bT l (fun j => decide (j = i.toNat) || t1 j) (fullN cT bT (atN l i.toNat) lev) out t2) : Told cT bT l t1 [.nd i lev] out t2 := by
  obtain ⟨k, hh⟩ := h
  refine ⟨k + 1, fun n r => ?_⟩
  show (if _ then eachR cT bT l (n + k) _ (fullN cT bT (atN l i.toNat) lev ++ r) else none) = _
  rw [if_pos ⟨h0, h1, ht, hk.1, hk.2⟩, hh]
theorem Told.brk {l : List Nd} {t1 t2 : Nat → Bool} {ps : List Pc} {out : List (List UInt8)} (h : Told cT bT l t1 ps out t2) : Told cT bT l t1 (brk ps) ([40] :: (out ++ [[41]])) t2 := by
  unfold Go.Proofs.YtcgjmnhmhiddkaaGreatDoor.brk
  exact (h.append (Told.sg (s := [41]) Told.nil)).sg
def outP (f : Int → Int → List (List UInt8)) (ps : List Pc) : List (List UInt8) := ps.flatMap fun p => match p with
  | .sg s => [s]
  | .nd j lv => f j lv
theorem sgsF_succ (l : List Nd) (f : Nat) (i lev : Int) : sgsF cT bT l (f + 1) i lev = outP (sgsF cT bT l f) (fullN cT bT (atN l i.toNat) lev) := rfl
theorem outP_brk (f : Int → Int → List (List UInt8)) (ps : List Pc) : outP f (Go.Proofs.YtcgjmnhmhiddkaaGreatDoor.brk ps) = [40] :: (outP f ps ++ [[41]]) := by unfold outP Go.Proofs.YtcgjmnhmhiddkaaGreatDoor.brk; simp
theorem Told.full {l : List Nd} {t1 t2 : Nat → Bool} {n : Nd} {lev : Int} {f : Int → Int → List (List UInt8)} (h : Told cT bT l t1 (pcsN cT bT n) (outP f (pcsN cT bT n)) t2) : Told cT bT l t1 (fullN cT bT n lev) (outP f (fullN cT bT n lev)) t2 := by
  unfold fullN
  split
  · rw [outP_brk]; exact h.brk
  · exact h
/-- Those of a node's that were met. -/
def metT (told : Nat → Bool) (a b : Nat) : Nat → Bool := fun j => (decide (a ≤ j) && decide (j ≤ b)) || told j
/-- More steps tell the same. -/
theorem sgsF_more (l : List Nd) (hok : ∀ j, j < l.length → okN l j (atN l j)) : ∀ (i : Nat), i < l.length → ∀ f g : Nat, i < f → i < g → ∀ lev, sgsF cT bT l f (i : Int) lev = sgsF cT bT l g (i : Int) lev := by
  intro i
  induction i using Nat.strongRecOn with
  | ind i ih =>
    intro hi f g hf hg lev
    obtain ⟨f, rfl⟩ : ∃ f', f = f' + 1 := ⟨f - 1, by omega⟩
    obtain ⟨g, rfl⟩ : ∃ g', g = g' + 1 := ⟨g - 1, by omega⟩
    rw [sgsF_succ, sgsF_succ, Int.toNat_natCast]
    have hn := (hok i hi).2
    have key : ∀ (j lv : Int), 0 ≤ j → j < (i : Int) → sgsF cT bT l f j lv = sgsF cT bT l g j lv := fun j lv h0 h1 => by
      obtain ⟨q, rfl⟩ := Int.eq_ofNat_of_zero_le h0
      exact ih q (by omega) (by omega) f g (by omega) (by omega) lv
    have hp : outP (sgsF cT bT l f) (pcsN cT bT (atN l i)) = outP (sgsF cT bT l g) (pcsN cT bT (atN l i)) := by
      generalize atN l i = n at hn ⊢
      unfold pcsN
      rcases hn with h | h | h | h | h | h
      · rw [if_pos h]; rfl
      · rw [if_neg (by rw [h]; decide), if_pos h]; rfl
      · rw [if_neg (by rw [h.1]; decide), if_neg (by rw [h.1]; decide), if_pos h.1]; rfl
      · obtain ⟨hk, h0, h1⟩ := h
        rcases hk with hk | hk | hk <;> simp [hk, outP, Go.Proofs.YtcgjmnhmhiddkaaGreatDoor.brk, key n.a _ h0 (by omega)]
      · obtain ⟨hk, ⟨h0, h1⟩, _⟩ := h
        simp [hk, outP, key n.a _ h0 (by omega)]
      · obtain ⟨hk, ⟨h0, h1⟩, h2, h3⟩ := h
        have hle := firstP_le l n.b.toNat
        rcases hk with hk | hk <;> simp [hk, outP, key n.a _ h2 (by omega), key n.b _ h0 (by omega)]
    unfold fullN
    split
    · rw [outP_brk, outP_brk, hp]
    · exact hp
theorem metT_one (told : Nat → Bool) (a q i : Nat) (h : i = q + 1) (ha : a ≤ q) : metT (fun j => decide (j = i) || told j) a q = metT told a i := by
  funext j
  unfold metT
  by_cases h1 : a ≤ j <;> by_cases h2 : j ≤ q <;> by_cases h3 : j = i <;> by_cases h4 : j ≤ i <;> simp [h1, h2, h3, h4] <;> omega
theorem metT_two (told : Nat → Bool) (a p b q i : Nat) (h : i = q + 1) (hb : b = p + 1) (ha : a ≤ p) (hq : b ≤ q) : metT (metT (fun j => decide (j = i) || told j) a p) b q = metT told a i := by
  funext j
  unfold metT
  by_cases h1 : a ≤ j <;> by_cases h2 : j ≤ p <;> by_cases h3 : j = i <;> by_cases h4 : j ≤ i <;> by_cases h5 : b ≤ j <;> by_cases h6 : j ≤ q <;> simp [h1, h2, h3, h4, h5, h6] <;> omega
theorem metT_self (told : Nat → Bool) (i : Nat) : (fun j => decide (j = i) || told j) = metT told i i := by
  funext j
  unfold metT
  by_cases h1 : i ≤ j <;> by_cases h2 : j ≤ i <;> by_cases h3 : j = i <;> simp [h1, h2, h3] <;> omega
/-- A node's text is told, and just its nodes are met. -/
theorem told_at (l : List Nd) (hok : ∀ j, j < l.length → okN l j (atN l j)) : ∀ (i : Nat), i < l.length → ∀ (t1 : Nat → Bool), (∀ j, firstP l i ≤ j → j ≤ i → t1 j = false) → ∀ lev : Int, Told cT bT l t1 [.nd (i : Int) lev] (sgsF cT bT l (i + 1) (i : Int) lev) (metT t1 (firstP l i) i) := by
  intro i
  induction i using Nat.strongRecOn with
  | ind i ih =>
    intro hi t1 ht lev
    have hn := hok i hi
    have hkk : 1 ≤ (atN l i).kind ∧ (atN l i).kind ≤ 9 := by
      rcases hn.2 with h | h | h | h | h | h <;> omega
    have hle := firstP_le l i
    refine Told.node (by omega) (by omega) (by rw [Int.toNat_natCast]; exact ht i hle (Nat.le_refl _)) (by rw [Int.toNat_natCast]; exact hkk) ?_
    rw [sgsF_succ, Int.toNat_natCast]
    refine Told.full ?_
    have leaf : ¬ partK (atN l i).kind → firstP l i = i := fun h => firstP_stop (fun hc => h hc.1)
    have sgs : ∀ ps : List (List UInt8), Told cT bT l (fun j => decide (j = i) || t1 j) (ps.map Pc.sg) ps (fun j => decide (j = i) || t1 j) := fun ps => by
      induction ps with
      | nil => exact Told.nil
      | cons x r ihr => exact ihr.sg
    have one : ∀ q : Nat, (atN l i).a = (q : Int) → i = q + 1 → partK (atN l i).kind → ∀ lv : Int, Told cT bT l (fun j => decide (j = i) || t1 j) [.nd (atN l i).a lv] (sgsF cT bT l i (atN l i).a lv) (metT t1 (firstP l i) i) := fun q ha hq hp lv => by
      have hf : firstP l i = firstP l q := by rw [firstP_go hp (by omega) (by omega), ha, Int.toNat_natCast]
      have hle2 := firstP_le l q
      have r := ih q (by omega) (by omega) (fun j => decide (j = i) || t1 j) (fun j h1 h2 => by
        have e : j ≠ i := by omega
        simp only [e, decide_false, Bool.false_or]
        exact ht j (by omega) (by omega)) lv
      rw [metT_one t1 (firstP l q) q i hq hle2] at r
      rw [ha, hf, hq]; rw [hq] at r; exact r
    obtain ⟨hb, hn2⟩ := hn
    clear hb
    rcases hn2 with h | h | h | h | h | h
    · rw [leaf (by rw [h]; decide), ← metT_self]
      unfold pcsN
      rw [if_pos h]
      exact sgs [[40], [41]]
    · rw [leaf (by rw [h]; decide), ← metT_self]
      unfold pcsN
      rw [if_neg (by rw [h]; decide), if_pos h]
      exact sgs [_]
    · rw [leaf (by rw [h.1]; decide), ← metT_self]
      unfold pcsN
      rw [if_neg (by rw [h.1]; decide), if_neg (by rw [h.1]; decide), if_pos h.1]
      exact sgs [_]
    · obtain ⟨hk, h0, h1⟩ := h
      have hp : partK (atN l i).kind := by unfold partK; omega
      have R := fun lv => one (i - 1) (by omega) (by omega) hp lv
      unfold pcsN
      rcases hk with hk | hk | hk
      · simp only [hk]
        exact (R 2).append (Told.sg (s := [42]) Told.nil)
      · simp only [hk]
        exact ((R 0).brk).sg
      · simp only [hk]
        exact ((R 0).brk).sg
    · obtain ⟨hk, ⟨h0, h1⟩, _⟩ := h
      have hp : partK (atN l i).kind := by unfold partK; omega
      have R := fun lv => one (i - 1) (by omega) (by omega) hp lv
      unfold pcsN
      simp only [hk]
      exact (R 2).append (Told.sg Told.nil)
    · obtain ⟨hk, ⟨h0, h1⟩, h2, h3⟩ := h
      have hp : partK (atN l i).kind := by unfold partK; omega
      obtain ⟨q, hq⟩ : ∃ q, i = q + 1 := ⟨i - 1, by omega⟩
      have hbq : (atN l i).b = (q : Int) := by omega
      have hleq := firstP_le l q
      rw [hbq, Int.toNat_natCast] at h3
      obtain ⟨p, hpa⟩ := Int.eq_ofNat_of_zero_le h2
      have hfb : firstP l q = p + 1 := by omega
      have hf : firstP l i = firstP l p := by rw [firstP_go hp (by omega) (by omega), hpa, Int.toNat_natCast]
      have hlep := firstP_le l p
      have RA := fun lv => ih p (by omega) (by omega) (fun j => decide (j = i) || t1 j) (fun j h1 h2 => by
        have e : j ≠ i := by omega
        simp only [e, decide_false, Bool.false_or]
        exact ht j (by omega) (by omega)) lv
      have RB := fun lv => ih q (by omega) (by omega) (metT (fun j => decide (j = i) || t1 j) (firstP l p) p) (fun j h1 h2 => by
        have e : j ≠ i := by omega
        have e2 : ¬ j ≤ p := by omega
        unfold metT
        simp only [e, e2, decide_false, Bool.and_false, Bool.false_or]
        exact ht j (by omega) (by omega)) lv
      rw [hf, ← metT_two t1 (firstP l p) p (firstP l q) q i hq hfb hlep hleq]
      have EA : ∀ lv, sgsF cT bT l i (p : Int) lv = sgsF cT bT l (p + 1) (p : Int) lv := fun lv => sgsF_more l hok p (by omega) i (p + 1) (by omega) (by omega) lv
      have EB : ∀ lv, sgsF cT bT l i (q : Int) lv = sgsF cT bT l (q + 1) (q : Int) lv := fun lv => by rw [← hq]
      unfold pcsN
      rcases hk with hk | hk
      · simp only [hk]
        have := (RA 1).append (RB 2)
        rw [← EA, ← EB] at this
        rw [hpa, hbq]
        simpa [outP] using this
      · simp only [hk]
        have := (RA 0).append (Told.sg (s := [124]) (RB 1))
        rw [← EA, ← EB] at this
        rw [hpa, hbq]
        simpa [outP] using this
end
end Go.Proofs.YtcgjmnhmhiddkaaGreatDoor
