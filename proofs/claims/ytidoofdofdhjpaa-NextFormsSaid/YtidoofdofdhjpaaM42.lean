/- Items put in front of others: slices.Insert at 0: walked. -/
import Derived.Test.YtidoofdofdhjpaaM41
import Derived.Test.YtidoofdofdhjpaaM35
import Derived.Test.YtidoofdofdhjpaaM27
import Derived.Lib.AppendZerosOnto
import Derived.Lib.Overlaps
namespace Go.Proofs.Ytidoofdofdhjpaa
open Go Go.RowKit
set_option linter.unusedVariables false
set_option linter.unusedSimpArgs false
set_option maxRecDepth 100000
set_option maxHeartbeats 16000000

/-- An append of items: their row's type says nothing. -/
theorem run_append_si (w : World) (ty : TypeId) (args : Array Value) : (Builtin.append_ #[26, 25] ty args).run Try.prog w = (Builtin.append_ #[26, 26] ty args).run Try.prog w := by
  have h1 := Try.underlying26
  have h2 := Try.underlying25
  unfold Builtin.append_
  simp only [Sem.run_bind, List.getElem?_toArray, List.getElem?_cons_zero, List.getElem?_cons_succ]
  cases args[0]? with
  | none => simp
  | some a => cases args[1]? with
    | none => simp
    | some b => cases a <;> simp [Sem.run_bind, run_underlying h1, run_underlying h2]
/-- Items copied into a block. -/
theorem run_copy_itG (tD tS : TypeId) (hD : Try.prog.underlying tD = some (.slice 44)) (w : World) (ty : TypeId) (g o dl dCap : Nat) (A : Option Addr) (c : Nat) (r : List Itm) (cur : Array Value) (t : TypeId) (sl : Nat) (hg : Blk w g cur t) (hr : Nat.min sl dl = r.length) (hfit : o + r.length * 4 ≤ cur.size) (hrow : ItRow w A r) :
    (Builtin.copy_ #[tD, tS] ty #[.slice (some ⟨g, o, none⟩) dl dCap, .slice A sl c]).run Try.prog w = .ok (.int .i64 (r.length : Int)) (w.setRow g (cur.toList.take o ++ flatIt r ++ cur.toList.drop (o + (flatIt r).length)).toArray) := by
  obtain ⟨ib, hib, hz0, hz1, hz2⟩ := info_parts infoIt
  have hst := run_storeCells_at Try.prog g o t (flatIt r) 0 cur w hg (by rw [flatIt_length]; exact hfit) (flatIt_ones r)
  have hmn := hr
  have hf : (Builtin.firstCells ib.size r.length (.slice A sl c)).run Try.prog w = .ok (flatIt r).toArray w := by
    by_cases hne : 0 < r.length
    · obtain ⟨b, oo, rfl, -, -⟩ := hrow 0 hne
      exact run_firstCells_some (P := Try.prog) w ib.size r.length ⟨b, oo, none⟩ sl c (flatIt r) (by rw [flatIt_length, hz1]) hrow.news
    · have hl : r = [] := List.length_eq_zero_iff.1 (by omega)
      subst hl
      cases A with
      | none => rfl
      | some x => exact run_firstCells_some (P := Try.prog) w ib.size 0 x sl c [] (by simp) (by simp)
  simp [Builtin.copy_, run_underlying hD, Builtin.lenOf, sizeOf, typeInfo, hib, hmn, hf, hst]
  rfl
/-- .. told by the block that it leaves. -/
theorem wp_copy_itG {w : World} {o : Oper} {a : Act} {K : Act → World → Prop} {Q : Exit → Act → World → Prop} (d s : Operand) (tD tS : TypeId) (hD : Try.prog.underlying tD = some (.slice 44))
    (ho : o.op = .call { callee := .builtin .copy, args := #[d, s], argTypes := #[tD, tS] })
    (g oo dl dCap : Nat) (A : Option Addr) (sl c : Nat) (r : List Itm) (cur : Array Value) (t : TypeId) (hd : a.eval d = .slice (some ⟨g, oo, none⟩) dl dCap) (hs : a.eval s = .slice A sl c)
    (hg : Blk w g cur t) (hr : Nat.min sl dl = r.length) (hfit : oo + r.length * 4 ≤ cur.size) (hrow : ItRow w A r)
    (h : ∀ v' w', Blk w' g (cur.toList.take oo ++ flatIt r ++ cur.toList.drop (oo + (flatIt r).length)).toArray t → w.grownBy w' (some g) → w'.heap.size = w.heap.size → K (a.put o.dst v') w') : o.wp Try.prog a w K Q := by
  have hrun := run_copy_itG tD tS hD w o.type g oo dl dCap A c r cur t sl hg hr hfit hrow
  unfold Oper.wp execOp
  simp only [ho, resolve, invoke, builtin, Sem.run_bind, Sem.run_pure, Result.andThen_ok, List.map_toArray, List.map_cons, List.map_nil, hd, hs, hrun]
  exact h _ _ (setRow_heap _ _ _ _ _ _ hg) (setRow_grown _ _ _) (setRow_size _ _ _)
/-- An append of items to a state that a call owns. -/
theorem wpList_append_si {w : World} {ops : Array Oper} {rest : List Oper} {o : Oper} {a : Act} {Q : Exit → Act → World → Prop} (hgd : o.guard = none) (s x : Operand)
    (ho : o.op = .call { callee := .builtin .append, args := #[s, x], argTypes := #[26, 25] })
    (base : Nat) (v : Value) (l : List Itm) (hs : a.eval s = v) (hown : OwnIt w base v l)
    (b oo c : Nat) (r : List Itm) (hx : a.eval x = .slice (some ⟨b, oo, none⟩) r.length c) (hr : ItRow w (some ⟨b, oo, none⟩) r) (hlen : l.length + r.length < 1073741824) (hbase : base ≤ w.heap.size)
    (h : ∀ v' w', OwnIt w' base v' (l ++ r) → w.grownBy w' v.ownBlock → wpList Try.prog ops Q rest (a.put o.dst v') w') : wpList Try.prog ops Q (o :: rest) a w :=
  wpList_plain hgd fun K hK => by
    obtain ⟨ib, hib, hz0, hz1, hz2⟩ := info_parts infoIt
    obtain ⟨v', w', hrun, h2, h3, _⟩ := run_append_own (P := Try.prog) w base 26 o.type 44 ib _ 4 32 Try.underlying26 hib hz0 hz1 hz2 rfl (by decide) v l.length (flatIt l) hown ⟨b, oo, none⟩ r.length c (flatIt r) (by rw [flatIt_length]) hr.news (flatIt_ones r) (by unfold maxLen; omega) (by omega) hbase
    rw [← run_append_si] at hrun
    unfold Oper.wp execOp
    simp only [ho, resolve, invoke, builtin, Sem.run_bind, Sem.run_pure, Result.andThen_ok, List.map_toArray, List.map_cons, List.map_nil, hs, hx, hrun]
    exact hK _ _ (h v' w' (by unfold OwnIt; rw [List.length_append, flatIt_append]; exact h2) h3)
/-- A block's cells, items put first, and others behind them: in whatever order. -/
theorem ins_cells (R : Array Value) (F Q : List Value) (h : F.length + Q.length ≤ R.size) :
    ∃ X1 X2 : Array Value, X1 = (R.toList.take 0 ++ F ++ R.toList.drop (0 + F.length)).toArray ∧ X1.size = R.size ∧ X2 = (X1.toList.take F.length ++ Q ++ X1.toList.drop (F.length + Q.length)).toArray ∧ X2.size = R.size ∧ X2.toList.take (F.length + Q.length) = F ++ Q := by
  have hR : R.toList.length = R.size := Array.length_toList
  have h1 : (R.toList.take 0 ++ F ++ R.toList.drop (0 + F.length)).length = R.size := by
    rw [List.length_append, List.length_append, List.length_take, List.length_drop, hR]; omega
  have h2 : (R.toList.take 0 ++ F ++ R.toList.drop (0 + F.length)).take F.length = F := by
    rw [List.take_zero, List.nil_append, List.take_append_of_le_length (Nat.le_refl _), List.take_length]
  refine ⟨_, _, rfl, by rw [List.size_toArray]; exact h1, rfl, ?_, ?_⟩
  · rw [List.size_toArray, List.length_append, List.length_append, List.length_take, List.length_drop, h1]; omega
  · show ((R.toList.take 0 ++ F ++ R.toList.drop (0 + F.length)).take F.length ++ Q ++ _).take _ = _
    rw [h2, List.take_append_of_le_length (by rw [List.length_append]; omega), List.take_of_length_le (by rw [List.length_append]; omega)]
theorem ins_cells2 (R : Array Value) (F Q : List Value) (h : F.length + Q.length ≤ R.size) :
    ∃ X1 X2 : Array Value, X1 = (R.toList.take F.length ++ Q ++ R.toList.drop (F.length + Q.length)).toArray ∧ X1.size = R.size ∧ X2 = (X1.toList.take 0 ++ F ++ X1.toList.drop (0 + F.length)).toArray ∧ X2.size = R.size ∧ X2.toList.take (F.length + Q.length) = F ++ Q := by
  have hR : R.toList.length = R.size := Array.length_toList
  have h0 : (R.toList.take F.length).length = F.length := by rw [List.length_take, hR]; omega
  have h1 : (R.toList.take F.length ++ Q ++ R.toList.drop (F.length + Q.length)).length = R.size := by
    rw [List.length_append, List.length_append, h0, List.length_drop, hR]; omega
  have h2 : (R.toList.take F.length ++ Q ++ R.toList.drop (F.length + Q.length)).drop F.length = Q ++ R.toList.drop (F.length + Q.length) := by
    rw [List.append_assoc, List.drop_append_of_le_length (by omega), List.drop_of_length_le (by omega), List.nil_append]
  refine ⟨_, _, rfl, by rw [List.size_toArray]; exact h1, rfl, ?_, ?_⟩
  · rw [List.size_toArray, List.length_append, List.length_append, List.length_take, List.length_drop, h1]; omega
  · show ((R.toList.take F.length ++ Q ++ R.toList.drop (F.length + Q.length)).take 0 ++ F ++ (R.toList.take F.length ++ Q ++ R.toList.drop (F.length + Q.length)).drop (0 + F.length)).take _ = _
    rw [List.take_zero, List.nil_append, Nat.zero_add, h2, ← List.append_assoc, List.take_append_of_le_length (by rw [List.length_append]; omega), List.take_of_length_le (by rw [List.length_append]; omega)]
/-- A copy, told by what it leaves. -/
theorem copy_told (tD tS : TypeId) (hD : Try.prog.underlying tD = some (.slice 44)) (w : World) (g o dl dCap : Nat) (A : Option Addr) (c : Nat) (r : List Itm) (cur : Array Value) (t : TypeId) (sl : Nat) (hg : Blk w g cur t) (hr : Nat.min sl dl = r.length) (hfit : o + r.length * 4 ≤ cur.size) (hrow : ItRow w A r) :
    ∃ w', (∀ ty, (Builtin.copy_ #[tD, tS] ty #[.slice (some ⟨g, o, none⟩) dl dCap, .slice A sl c]).run Try.prog w = .ok (.int .i64 (r.length : Int)) w') ∧ Blk w' g (cur.toList.take o ++ flatIt r ++ cur.toList.drop (o + (flatIt r).length)).toArray t ∧ w.grownBy w' (some g) ∧ w'.heap.size = w.heap.size :=
  ⟨_, fun ty => run_copy_itG tD tS hD w ty g o dl dCap A c r cur t sl hg hr hfit hrow, setRow_heap _ _ _ _ _ _ hg, setRow_grown _ _ _, setRow_size _ _ _⟩
theorem own_made {w : World} {B g G : Nat} {l : List Itm} {X : Array Value} (hB : B ≤ g) (h : Blk w g X 44) (hn : l.length ≤ G) (hG : G ≤ maxLen) (hs : X.size = G * 4) (ht : X.toList.take (l.length * 4) = flatIt l) : OwnIt w B (.slice (some ⟨g, 0, none⟩) l.length G) l :=
  ⟨flatIt_length _, .inr ⟨g, G, X, rfl, hB, h, hn, hG, hs, ht⟩⟩
theorem grown_new {a b c : World} {r : Option Nat} {g : Nat} (h : a.grownBy b r) (hg : a.heap.size ≤ g) (k : b.grownBy c (some g)) : a.grownBy c r :=
  ⟨k.os.trans h.os, k.tape.trans h.tape, k.output.trans h.output, Nat.le_trans h.size k.size, fun i hi hne => (k.block i (Nat.lt_of_lt_of_le hi h.size) (by intro e; cases e; omega)).trans (h.block i hi hne)⟩
def BlwS (w0 w : World) : Prop := Below w0.heap.size w0 w
theorem BlwS.later {w0 w w' : World} (h : BlwS w0 w) (hb : Below w.heap.size w w') : BlwS w0 w' := by
  unfold BlwS at *
  exact h.trans (hb.mono h.size)
theorem fr_row {w : World} {b : Nat} {f : List Itm} (h : Blk w b (flatIt f).toArray 44) : ItRow w (some ⟨b, 0, none⟩) f := fun i hi => ⟨b, 0, rfl, h.lt, fun j hj => by
  rw [h.cell, Nat.zero_add, List.getElem?_toArray, flatIt_get f i j hi hj]⟩
theorem own_shape {w : World} {b : Nat} {cs : Array Value} {t : TypeId} (h : Blk w b cs t) : w.shape? b = some (t, cs.size) := by
  unfold World.shape?
  unfold Blk at h
  rw [h]
def NinP (B : Nat) (v : Value) (l : List Itm) (w : World) (e : Ending) (w' : World) : Prop := ∃ u, e = .returned u ∧ OwnIt w' B u l ∧ w.grownBy w' v.ownBlock
theorem nxIns_any (f q : List Itm) (v : Value) (A : Option Addr) (cf B : Nat) (w : World) (hq : OwnIt w B v q) (hB : B ≤ w.heap.size) (hf : FrV f (.slice A f.length cf) w) (hne : ∀ b, A = some ⟨b, 0, none⟩ → v.ownBlock ≠ some b) (hfl : f.length ≤ 2) (hql : q.length ≤ 1000000) :
    Calls Try.prog 55 #[v, .int .i64 0, .slice A f.length cf] w (NinP B v (f ++ q) w) := by
  by_cases hm : f.length = 0
  · have hf0 : f = [] := List.length_eq_zero_iff.1 hm
    subst hf0
    have HP : Hid (NinP B v ([] ++ q) w (.returned v) w) := ⟨_, rfl, by rw [List.nil_append]; exact hq, World.grownBy.refl _ _⟩
    obtain ⟨a7, c7, rfl, hc7, -⟩ := hq.row
    clear hq hf hne
    have hqz : (0 : Int) ≤ (q.length : Int) := by omega
    generalize q.length = n at *
    simp only [List.length_nil] at hm ⊢
    go_enter Try.func55, Try.ntmps55
    go_wp2
    go_ret
    exact HP.out
  · rcases hf with ⟨hf0, -⟩ | ⟨bf, hfv, hbf⟩
    · exact absurd (by rw [hf0]; rfl) hm
    · injection hfv with q1 q2 q3
      subst q1; subst q3
      have HNE : Hid (v.ownBlock ≠ some bf) := hne bf rfl
      have HFR : Hid (ItRow w (some ⟨bf, 0, none⟩) f) := fun i hi => ⟨bf, 0, rfl, hbf.lt, fun j hj => by
        rw [hbf.cell, Nat.zero_add, List.getElem?_toArray, flatIt_get f i j hi hj]⟩
      have HBF := Lib.hid hbf
      have hmz : ((f.length : Int) == 0) = false := by rw [beq_eq_false_iff_ne]; omega
      have hmz2 : ¬ (f.length : Int) = 0 := by omega
      have HL := Lib.hid hfl
      have HM := Lib.hid hm
      clear hne hbf hm
      by_cases hn : q.length = 0
      · have hq0 : q = [] := List.length_eq_zero_iff.1 hn
        subst hq0
        have HOWN := Lib.hid hq
        obtain ⟨a7, c7, rfl, hc7, -⟩ := hq.row
        clear hq
        have HLF : Hid (([] : List Itm).length + f.length < 1073741824) := by unfold Hid; simp; omega
        have HBB := Lib.hid hB
        simp only [List.length_nil] at hn HOWN ⊢
        go_enter Try.func55, Try.ntmps55
        go_wp2_with (at_builtin; refine wpList_append_si rfl _ _ rfl B (.slice a7 0 c7) [] rfl HOWN.out bf 0 f.length f rfl HFR.out HLF.out HBB.out ?_; intro v' w' h2 h3; have HP : Hid (NinP B (.slice a7 0 c7) f w (.returned v') w') := ⟨_, rfl, by (rw [List.nil_append] at h2; exact h2), h3⟩; clear h2 h3)
        go_ret
        exact HP.out
      · have HOWN := Lib.hid hq
        obtain ⟨_, ⟨hv, hn0⟩ | ⟨g, cap, cur, hv, hg, hgb, hnc, hmx, hcs, htk⟩⟩ := hq
        · exact absurd hn0 hn
        · subst hv
          have hgb : Blk w g cur 44 := hgb
          have HGB := Lib.hid hgb
          have HG := Lib.hid hg
          have HQR := Lib.hid HOWN.out.rowAt
          have hnz : ((0 : Int) == (q.length : Int)) = false := by rw [beq_eq_false_iff_ne]; omega
          have hnz2 : ¬ (0 : Int) = (q.length : Int) := by omega
          have HGN : Hid (g ≠ bf) := fun e => HNE.out (by rw [e]; rfl)
          have HCS := Lib.hid hcs
          have HTK := Lib.hid htk
          unfold maxLen at hmx
          clear hgb hg hcs htk hn HNE
          obtain ⟨n, hqn⟩ : ∃ n, n = q.length := ⟨_, rfl⟩
          obtain ⟨m, hfm⟩ : ∃ m, m = f.length := ⟨_, rfl⟩
          rw [← hqn] at hnc hnz hnz2 hql ⊢
          rw [← hfm] at hmz hmz2 hfl ⊢
          have HQN := Lib.hid hqn
          have HFM := Lib.hid hfm
          have hn1 : 1 ≤ n := by omega
          have hm1 : 1 ≤ m := by omega
          clear hqn hfm
          by_cases hroom : cap < n + m
          · have hgt : decide ((n : Int) + (m : Int) > (cap : Int)) = true := by rw [decide_eq_true_iff]; omega
            have hgt2 : (n : Int) + (m : Int) > (cap : Int) := by omega
            have hfx : ¬ 281474976710656 < Builtin.nextslicecap (n + m) cap * Try.t44.bytes := by
              have h : Builtin.nextslicecap (n + m) cap * 32 ≤ 281474976710656 := growslice_fits (by omega) (by omega)
              exact Nat.not_lt.2 h
            have hby : ((n : Int) + (m : Int)) * ((Try.t44.bytes : Nat) : Int) ≤ 281474976710656 := by
              show ((n : Int) + (m : Int)) * 32 ≤ _
              omega
            have hp0 : ¬ (n : Int) + (m : Int) < 0 := by omega
            obtain ⟨G, hG⟩ : ∃ G, grownCap w (n + m) cap 44 = G := ⟨_, rfl⟩
            have hGn : n + m ≤ G := by rw [← hG]; exact grownCap_ge w _ _ _
            have hGx : G ≤ maxLen := by rw [← hG]; exact grownCap_le_maxLen w (n + m) cap 44 (by unfold maxLen; omega)
            have hcut : (Question.appendCap (n + m) cap 44).cut (w.tape w.drawn (Question.appendCap (n + m) cap 44)) = G := hG
            have HCUT := Lib.hid hcut
            have HGX := Lib.hid hGx
            have HGN2 := Lib.hid hGn
            clear hG hcut hGx hGn
            go_enter Try.func55, Try.ntmps55
            go_upto_region 10 with (fail)
            rw [HCUT.out]
            clear HCUT hfx hby hp0
            have HRS : Hid ((Builtin.zeroCells #[.int .i64 0, .int .i64 0, .int .i64 0, .int .i64 0] (n + m) ++ Builtin.zeroCells #[.int .i64 0, .int .i64 0, .int .i64 0, .int .i64 0] (G - (n + m))).size = G * 4) := by
              unfold Hid
              rw [Array.size_append, size_zeroCells, size_zeroCells]
              have := HGN2.out
              show (n + m) * 4 + (G - (n + m)) * 4 = G * 4
              rw [Nat.sub_mul]; omega
            generalize (Builtin.zeroCells #[.int .i64 0, .int .i64 0, .int .i64 0, .int .i64 0] (n + m) ++ Builtin.zeroCells #[.int .i64 0, .int .i64 0, .int .i64 0, .int .i64 0] (G - (n + m)) : Array Value) = ROW at *
            have hb1 : Below w.heap.size w (w.alloc (.cells ROW 44)).drew := ((Below.refl w.heap.size w).alloc (Nat.le_refl _) _).drew
            have hn1b : Blk (w.alloc (.cells ROW 44)).drew w.heap.size ROW 44 := (Blk.new w ROW 44).later (Below.refl _ _).drew
            generalize (w.alloc (.cells ROW 44)).drew = w1 at *
            have hlt := HGN2.out
            have hFl : (flatIt f).length = m * 4 := by rw [flatIt_length, ← HFM.out]
            have hQl : (flatIt q).length = n * 4 := by rw [flatIt_length, ← HQN.out]
            obtain ⟨X1, X2, e1, s1, e2, s2, t2⟩ := ins_cells ROW (flatIt f) (flatIt q) (by rw [hFl, hQl, HRS.out]; omega)
            obtain ⟨w2, hc1, hb2, hg2, hz2⟩ := copy_told 26 25 Try.underlying26 w1 w.heap.size 0 (n + m) G (some ⟨bf, 0, none⟩) m f ROW 44 m hn1b (by rw [← HFM.out]; exact Nat.min_eq_left (by omega)) (by rw [← HFM.out, HRS.out]; omega) (HFR.out.later hb1)
            rw [← e1] at hb2
            have hgw2 : w.grownBy w2 (some g) := grown_new ⟨hb1.os, hb1.tape, hb1.output, hb1.size, fun j hj _ => hb1.block j hj⟩ (Nat.le_refl _) hg2
            have hbel2 : Below w.heap.size w w2 := ⟨hgw2.os, hgw2.tape, hgw2.output, hgw2.size, fun j hj => (hg2.block j (Nat.lt_of_lt_of_le hj hb1.size) (by intro e; cases e; omega)).trans (hb1.block j hj)⟩
            rw [← HFM.out] at hc1
            have HB2 := Lib.hid hb2
            have HBE2 := Lib.hid hbel2
            have HGW2 := Lib.hid hgw2
            have HE2 := Lib.hid e2
            have HT2 := Lib.hid t2
            have HS1 := Lib.hid s1
            have HS2 := Lib.hid s2
            have HFL := Lib.hid hFl
            have HQL := Lib.hid hQl
            clear hb2 hg2 hz2 hgw2 hbel2 e1 e2 t2 s1 s2 hFl hQl hb1 hn1b
            have hG1 : ¬ G = 0 := by omega
            have hG2 : ¬ G = m := by omega
            have hGz : (m : Int) ≤ (G : Int) := by omega
            have hnmz : (m : Int) ≤ (n : Int) + (m : Int) := by omega
            have hnmm : (1 : Int) ≤ (n : Int) := by omega
            go_upto_region 11 with (fail)
            clear hc1
            refine wp_region_stable_last (S := (BlwS w2)) (hSt := fun _ _ h hb => h.later hb) (plan := [[(9, none)], [(1, none)], [(7, none)], [(47, some 1), (48, some 2)], [(46, some 0), (49, some 3)], [(0, none)], [(1, none)], [(51, some 5), (52, some 6)]]) rfl (by kernel_rfl) (by kernel_rfl) (by kernel_rfl) (by kernel_rfl) ?hS ?_
            rotate_left
            simp only [List.dropLast]
            iterate 8 first
              | (refine chain_skip (by rfl) (by rfl) ?_)
              | (apply chain_want (by rfl)
                 · intro act wx hS hr
                   simp at hr
                   go_simp
                   (try go_ints)
                   first
                     | exact Done.same
                )
            show ∀ w', _ → _
            intro wz hz
            simp [Act.put]
            case hS => exact Below.refl _ _
            have hwz : w.grownBy wz (some g) := grown_below HGW2.out hz
            have HGWZ := Lib.hid hwz
            have HBZ := Lib.hid (HB2.out.later hz)
            have HQZ := Lib.hid (HQR.out.later (HBE2.out.trans (Below.mono hz HBE2.out.size)))
            have hnm0 : n + m - m = n := by omega
            refine wp_copy_itG (.tmp 50) (.tmp 53) 26 26 Try.underlying26 rfl w.heap.size (m * 4) (n + m - m) (G - m) (some ⟨g, 0, none⟩) n cap q X1 44 (by simp [Act.eval]) (by simp [Act.eval]) HBZ.out (by rw [hnm0, ← HQN.out]; exact Nat.min_self _) (by rw [HS1.out, HRS.out, ← HQN.out]; omega) HQZ.out ?_
            intro v3 w3 hb3 hg3 hz3
            have hx2 : (X1.toList.take (m * 4) ++ flatIt q ++ X1.toList.drop (m * 4 + (flatIt q).length)).toArray = X2 := by
              rw [HE2.out, HFL.out]
            rw [hx2] at hb3
            have ht2 := HT2.out
            rw [← flatIt_append] at ht2
            have HP : Hid (NinP B (.slice (some ⟨g, 0, none⟩) n cap) (f ++ q) w (.returned (.slice (some ⟨w.heap.size, 0, none⟩) (n + m) G)) w3) := by
              have hl : (f ++ q).length = n + m := by rw [List.length_append, ← HFM.out, ← HQN.out]; omega
              have ho := own_made (l := f ++ q) (B := B) hB hb3 (by rw [hl]; exact HGN2.out) HGX.out (by rw [HS2.out, HRS.out]) (by rw [← ht2, HFL.out, HQL.out, hl]; congr 1; omega)
              rw [hl] at ho
              exact ⟨_, rfl, ho, grown_new HGWZ.out (Nat.le_refl _) hg3⟩
            clear hb3 hg3 hz3 hx2 ht2 hwz
            go_wp2
            go_ret
            exact HP.out
          · have hgt : decide ((n : Int) + (m : Int) > (cap : Int)) = false := by rw [decide_eq_false_iff_not]; omega
            have hgt2 : ¬ (n : Int) + (m : Int) > (cap : Int) := by omega
            have hFl : (flatIt f).length = m * 4 := by rw [flatIt_length, ← HFM.out]
            have hQl : (flatIt q).length = n * 4 := by rw [flatIt_length, ← HQN.out]
            obtain ⟨X1, X2, e1, s1, e2, s2, t2⟩ := ins_cells2 cur (flatIt f) (flatIt q) (by rw [hFl, hQl, HCS.out]; omega)
            have HE1 := Lib.hid e1
            have HE2 := Lib.hid e2
            have HT2 := Lib.hid t2
            have HS1 := Lib.hid s1
            have HS2 := Lib.hid s2
            have HFL := Lib.hid hFl
            have HQL := Lib.hid hQl
            have HMX : Hid (cap ≤ maxLen) := by unfold Hid maxLen; exact hmx
            have hov : ∀ lb cb, (callFunc 75 #[.slice (some ⟨bf, 0, none⟩) m m, .slice (some ⟨g, m * 4, none⟩) lb cb]).run Try.prog w = .ok (.value (.bool false)) w := fun lb cb => by
              rw [run_callFunc_extern Try.func75 (by kernel_rfl) (by kernel_rfl) (by kernel_rfl) (e := Extern.SlicesOverlaps.overlaps #[25, 25] #[4]) (by kernel_rfl), Lib.run_overlaps_apart w 25 4 44 Try.underlying25 4 (fun w => Try.sizeOf44 w) ⟨bf, 0, none⟩ ⟨g, m * 4, none⟩ m m lb cb (fun e => HGN.out e.symm) 44 44 _ _ (own_shape HBF.out) (own_shape HGB.out) (by rw [HCS.out]; omega) (HBF.out.frozen 0) (HBF.out.frozen _)]
              rfl
            clear e1 e2 t2 s1 s2 hFl hQl
            have hcm : ¬ cap = m := by omega
            have hc0 : ¬ cap = 0 := by omega
            have hnmc : (n : Int) + (m : Int) ≤ (cap : Int) := by omega
            have hnmz : (m : Int) ≤ (n : Int) + (m : Int) := by omega
            have hmp : (0 : Int) ≤ (n : Int) + (m : Int) := by omega
            go_enter Try.func55, Try.ntmps55
            go_upto_region 15 with (simp only [hov])
            refine wp_region_stable_last (S := (BlwS w)) (hSt := fun _ _ h hb => h.later hb) (plan := [[(0, none)], [(1, none)], [(7, none)], [(70, some 1), (71, some 2)], [(69, some 0), (72, some 3)], [(0, none)], [(1, none)], [(74, some 5), (75, some 6)]]) rfl (by kernel_rfl) (by kernel_rfl) (by kernel_rfl) (by kernel_rfl) ?hS ?_
            rotate_left
            simp only [List.dropLast]
            iterate 8 first
              | (refine chain_skip (by rfl) (by rfl) ?_)
              | (apply chain_want (by rfl)
                 · intro act wx hS hr
                   simp at hr
                   go_simp
                   (try go_ints)
                   first
                     | exact Done.same
                )
            show ∀ w', _ → _
            intro wz hz
            simp [Act.put]
            case hS => exact Below.refl _ _
            have hGZ := HGB.out.later hz
            have hFZ := HBF.out.later hz
            have hQZ : ItRow wz (some ⟨g, 0, none⟩) q := HQR.out.later hz
            have HZ : Hid (w.grownBy wz (some g)) := ⟨hz.os, hz.tape, hz.output, hz.size, fun j hj _ => hz.block j hj⟩
            have hnm0 : n + m - m = n := by omega
            refine wp_copy_itG (.tmp 73) (.tmp 76) 26 26 Try.underlying26 rfl g (m * 4) (n + m - m) (cap - m) (some ⟨g, 0, none⟩) (n + m) cap q cur 44 (by simp [Act.eval]) (by simp [Act.eval]) hGZ (by rw [hnm0, ← HQN.out]; exact Nat.min_eq_right (by omega)) (by rw [HCS.out, ← HQN.out]; omega) hQZ ?_
            intro v3 w3 hb3 hg3 hz3
            have hx1 : (cur.toList.take (m * 4) ++ flatIt q ++ cur.toList.drop (m * 4 + (flatIt q).length)).toArray = X1 := by
              rw [HE1.out, HFL.out]
            rw [hx1] at hb3
            have hf3 : Blk w3 bf (flatIt f).toArray 44 := (hg3.block bf hFZ.lt (fun e => HGN.out (Option.some.inj e).symm)).trans hFZ
            obtain ⟨w4, hc4, hb4, hg4, hz4⟩ := copy_told 26 25 Try.underlying26 w3 g 0 (n + m) cap (some ⟨bf, 0, none⟩) m f X1 44 m hb3 (by rw [← HFM.out]; exact Nat.min_eq_left (by omega)) (by rw [← HFM.out, HS1.out, HCS.out]; omega) (fr_row hf3)
            rw [← HFM.out] at hc4
            have hx2 : (X1.toList.take 0 ++ flatIt f ++ X1.toList.drop (0 + (flatIt f).length)).toArray = X2 := HE2.out.symm
            rw [hx2] at hb4
            have ht2 := HT2.out
            rw [← flatIt_append] at ht2
            have HP : Hid (NinP B (.slice (some ⟨g, 0, none⟩) n cap) (f ++ q) w (.returned (.slice (some ⟨g, 0, none⟩) (n + m) cap)) w4) := by
              have hl : (f ++ q).length = n + m := by rw [List.length_append, ← HFM.out, ← HQN.out]; omega
              have ho := own_made (l := f ++ q) (B := B) (G := cap) HG.out hb4 (by rw [hl]; omega) HMX.out (by rw [HS2.out, HCS.out]) (by rw [← ht2, HFL.out, HQL.out, hl]; congr 1; omega)
              rw [hl] at ho
              exact ⟨_, rfl, ho, grown_trans HZ.out (grown_trans hg3 hg4)⟩
            clear hb3 hg3 hz3 hx1 hx2 ht2 hf3 hb4 hg4 hz4 hGZ hFZ hQZ hz
            go_wp2
            go_ret
            exact HP.out
end Go.Proofs.Ytidoofdofdhjpaa
/- Who reads what: the table, and what is found in it: walked. -/
namespace Go.Proofs.Ytidoofdofdhjpaa
open Go Go.RowKit
set_option linter.unusedVariables false
set_option linter.unusedSimpArgs false
set_option maxRecDepth 100000
set_option maxHeartbeats 16000000

theorem run_lookup_rd (w : World) (m : Nat) (l : List (Int × Value)) (k : Int) (hm : IsMapK w m l) :
    (Instr.lookup 66 (.map (some m)) (.int .i64 k) true).run Try.prog w = .ok (match findEK l k 0 with | some (_, v) => .tuple #[v, .bool true] | none => .tuple #[.nilFunc, .bool false]) w := by
  unfold IsMapK at hm
  have hf := findNow_mapEsK k l 0
  have hz := Try.zeroValue90
  simp only [Instr.lookup, Sem.run_bind, run_underlying Try.underlying66, Result.andThen, getObj, Sem.run, hm, keysK_free, Instr.findKey, run_underlying Try.underlying3, hf]
  rw [show (Sem.run Try.prog (pure (mapEsK l 0).toArray) w) = .ok (mapEsK l 0).toArray w from rfl]
  simp only [hf]
  cases h : findEK l k 0 with
  | none => simp [Sem.run_bind, hz, Result.andThen]
  | some p => obtain ⟨i, v⟩ := p; rfl
theorem run_update_rd (w : World) (m : Nat) (l : List (Int × Value)) (k : Int) (v : Value) (hm : IsMapK w m l) (hk : findEK l k 0 = none) :
    (Instr.mapUpdate 66 (.map (some m)) (.int .i64 k) v).run Try.prog w = .ok () (putMapK w m (l ++ [(k, v)])) := by
  have hlt := hm.lt
  unfold IsMapK at hm
  have hf := findNow_mapEsK k l 0
  rw [hk] at hf
  simp only [Instr.mapUpdate, Sem.run_bind, run_underlying Try.underlying66, Result.andThen, getObj, Sem.run, hm, keysK_free, Instr.findKey, run_underlying Try.underlying3, hf]
  simp only [setObj, Sem.run, hm]
  unfold putMapK
  rw [mapEsK_append]
  simp [Sem.run, hm]
theorem run_makeMap_rd (w : World) : (Instr.makeMap 66 none).run Try.prog w = .ok (.map (some w.heap.size)) (w.alloc (.map #[] 0)) := by
  simp [Instr.makeMap, Sem.run_bind, newObj, Sem.run, Result.andThen]
def fWh : Value := .func (.func 51) #[] #[]
def fTx : Value := .func (.func 52) #[] #[]
def fHa : Value := .func (.func 53) #[] #[]
/-- The table. -/
def rdL : List (Int × Value) := [(1, fWh), (3, fTx), (4, fHa)]
structure NrkS (w0 : World) (m : Nat) (l : List (Int × Value)) (w : World) : Prop where
  bel : Below w0.heap.size w0 w
  map : IsMapK w m l
  low : w0.heap.size ≤ m
theorem NrkS.put {w0 w : World} {m : Nat} {l : List (Int × Value)} (h : NrkS w0 m l w) (l' : List (Int × Value)) : NrkS w0 m l' (putMapK w m l') :=
  ⟨putMapK_below h.bel h.low l', putMapK_is h.map.lt l', h.low⟩
theorem nxTable_any (w : World) : Calls Try.prog 33 #[] w (fun e w' => ∃ m, e = .returned (.map (some m)) ∧ IsMapK w' m rdL ∧ Below w.heap.size w w') := by
  have hmk := run_makeMap_rd w
  have HS0 : Hid (NrkS w w.heap.size [] (w.alloc (.map #[] 0))) := ⟨(Below.refl _ _).alloc (Nat.le_refl _) _, by unfold IsMapK mapEsK; show (w.heap.push _)[w.heap.size]? = _; simp, Nat.le_refl _⟩
  obtain ⟨u1, hu1⟩ : ∃ u, u = putMapK (w.alloc (.map #[] 0)) w.heap.size [(1, fWh)] := ⟨_, rfl⟩
  have hx1 : (Instr.mapUpdate 66 (.map (some w.heap.size)) (.int .i64 1) fWh).run Try.prog (w.alloc (.map #[] 0)) = .ok () u1 := by
    rw [hu1]; exact run_update_rd (w.alloc (.map #[] 0)) w.heap.size [] 1 fWh HS0.out.map rfl
  have HS1 : Hid (NrkS w w.heap.size [(1, fWh)] u1) := by rw [hu1]; exact HS0.out.put _
  clear hu1
  obtain ⟨u2, hu2⟩ : ∃ u, u = putMapK u1 w.heap.size [(1, fWh), (3, fTx)] := ⟨_, rfl⟩
  have hx2 : (Instr.mapUpdate 66 (.map (some w.heap.size)) (.int .i64 3) fTx).run Try.prog u1 = .ok () u2 := by
    rw [hu2]; exact run_update_rd u1 w.heap.size [(1, fWh)] 3 fTx HS1.out.map rfl
  have HS2 : Hid (NrkS w w.heap.size [(1, fWh), (3, fTx)] u2) := by rw [hu2]; exact HS1.out.put _
  clear hu2
  obtain ⟨u3, hu3⟩ : ∃ u, u = putMapK u2 w.heap.size rdL := ⟨_, rfl⟩
  have hx3 : (Instr.mapUpdate 66 (.map (some w.heap.size)) (.int .i64 4) fHa).run Try.prog u2 = .ok () u3 := by
    rw [hu3]; exact run_update_rd u2 w.heap.size [(1, fWh), (3, fTx)] 4 fHa HS2.out.map rfl
  have HS3 : Hid (NrkS w w.heap.size rdL u3) := by rw [hu3]; exact HS2.out.put _
  clear hu3 HS0 HS1 HS2
  unfold fWh at hx1
  unfold fTx at hx2
  unfold fHa at hx3
  go_enter Try.func33, Try.ntmps33
  go_wp2
  go_ret
  exact ⟨_, rfl, HS3.out.map, HS3.out.bel⟩
/-- Who reads a ready item, and what is read. -/
theorem rd_at {l : List Nd} {x : Itm} (h0 : 0 < l.length) (hx : HdF l x) (hrd : rdyS l [x] = true) (htx : Txt l) (c : UInt8) : ∃ fK, (∀ m w, IsMapK w m rdL → (Instr.lookup 66 (.map (some m)) (.int .i64 x.kind) true).run Try.prog w = .ok (.tuple #[.func (.func fK) #[] #[], .bool true]) w) ∧
    (∀ args w, (callFunc fK args).run Try.prog w = .ok (.enter fK args) w) ∧ ∀ w, Calls Try.prog fK #[.agg (rdC x (atN l x.node.toNat) c)] w (RdfP (frS l x c) w) := by
  obtain ⟨i, hil, hin⟩ := hx.inl h0
  have hti : (atN l x.node.toNat).text.length ≤ 281474976710656 := htx _ (by
    rw [hin, Int.toNat_natCast]
    unfold atN; rw [List.getD_eq_getElem?_getD, List.getElem?_eq_getElem hil]; exact List.getElem_mem _)
  have hlk : ∀ m w, IsMapK w m rdL → (Instr.lookup 66 (.map (some m)) (.int .i64 x.kind) true).run Try.prog w = .ok (match findEK rdL x.kind 0 with | some (_, v) => .tuple #[v, .bool true] | none => .tuple #[.nilFunc, .bool false]) w := fun m w h => run_lookup_rd w m rdL x.kind h
  have hkd := hx.kind
  by_cases h1 : x.kind = 1
  · refine ⟨51, fun m w h => ?_, enters_of Try.func51 (by kernel_rfl) rfl, fun w => ?_⟩
    · rw [hlk m w h, h1]; rfl
    · have hk : (atN l x.node.toNat).kind = 2 ∨ (atN l x.node.toNat).kind = 8 ∨ (atN l x.node.toNat).kind = 9 := by
        unfold rdyS at hrd
        simp only [h1] at hrd
        simpa [or_assoc] using hrd
      have := nxWhole_any x (atN l x.node.toNat) c hk w
      have e : frS l x c = whF (atN l x.node.toNat) x c := by
        unfold frS whF
        simp only [show ¬ x.kind = 3 by omega, show ¬ x.kind = 4 by omega, if_false]
      rw [e]; exact this
  · by_cases h3 : x.kind = 3
    · obtain ⟨q1, q2, q3, q4⟩ := hx.three h3
      refine ⟨52, fun m w h => ?_, enters_of Try.func52 (by kernel_rfl) rfl, fun w => ?_⟩
      · rw [hlk m w h, h3]; rfl
      · have := nxText_any x (atN l x.node.toNat) c (by omega) (by omega) hti w
        have e : frS l x c = txF (atN l x.node.toNat) x c := by
          unfold frS txF
          simp only [h3, if_true, q2]
        rw [e]; exact this
    · have h4 : x.kind = 4 := by
        by_cases h2 : x.kind = 2
        · exfalso
          unfold rdyS at hrd
          simp only [h2] at hrd
          simp at hrd
        · by_cases h5 : x.kind = 5
          · exfalso
            unfold rdyS at hrd
            simp only [h5] at hrd
            simp at hrd
          · omega
      obtain ⟨q1, q2, q3, q4⟩ := hx.four h4
      refine ⟨53, fun m w h => ?_, enters_of Try.func53 (by kernel_rfl) rfl, fun w => ?_⟩
      · rw [hlk m w h, h4]; rfl
      · have := nxHalf_any x (atN l x.node.toNat) c (by omega) (by omega) w
        have e : frS l x c = some [⟨1, (atN l x.node.toNat).a, 0, 0⟩, ⟨5, 0, 256 * x.lo + (c.toNat : Int), 0⟩] := by
          unfold frS
          simp only [h3, h4, if_true, if_false, show ¬ (4 : Int) = 3 by decide]
        rw [e]; exact this
end Go.Proofs.Ytidoofdofdhjpaa
/- A byte read by a ready state: walked. -/
namespace Go.Proofs.Ytidoofdofdhjpaa
open Go Go.RowKit
set_option linter.unusedVariables false
set_option linter.unusedSimpArgs false
set_option maxRecDepth 100000
set_option maxHeartbeats 16000000

/-- What the reading of a byte leaves. -/
def NrdP (o : Option (List Itm)) (w : World) (e : Ending) (w' : World) : Prop := ∃ v, e = .returned (.tuple #[v, .bool o.isSome]) ∧ Below w.heap.size w w' ∧ (∀ q, o = some q → OwnIt w' w.heap.size v q) ∧ (o = none → v = .slice none 0 0)
structure NrS (w0 : World) (A : Option Addr) (l : List Nd) (c : Nat) (B : Option Addr) (s : List Itm) (m : Nat) (w : World) : Prop where
  bel : Below w0.heap.size w0 w
  row : NRow w A l
  box : Blk w w0.heap.size #[.slice A l.length c] 24
  ss : ItRow w B s
  map : IsMapK w m rdL
theorem NrS.later {w0 w w' : World} {A : Option Addr} {l : List Nd} {c : Nat} {B : Option Addr} {s : List Itm} {m : Nat} (h : NrS w0 A l c B s m w) (hb : Below w.heap.size w w') : NrS w0 A l c B s m w' :=
  ⟨h.bel.trans (hb.mono h.bel.size), h.row.later hb, h.box.later hb, h.ss.later hb, h.map.later hb⟩
def FroV (o : Option (List Itm)) (v : Value) (w : World) : Prop := ∀ f, o = some f → FrV f v w
theorem FroV.later (o : Option (List Itm)) (v : Value) (w w' : World) (h : FroV o v w) (hb : Below w.heap.size w w') : FroV o v w' := fun f hf => FrV.later f v w w' (h f hf) hb
def NtV (o : Option (List Itm)) (v : Value) (w : World) : Prop := ∃ u, v = .tuple #[u, .bool o.isSome] ∧ FroV o u w
theorem NtV.later (o : Option (List Itm)) (v : Value) (w w' : World) (h : NtV o v w) (hb : Below w.heap.size w w') : NtV o v w' := by
  obtain ⟨u, h1, h2⟩ := h
  exact ⟨u, h1, h2.later _ _ _ _ hb⟩
def NbV (b : Bool) (v : Value) (w : World) : Prop := v = .bool b
theorem NbV.later (b : Bool) (v : Value) (w w' : World) (h : NbV b v w) (hb : Below w.heap.size w w') : NbV b v w' := h
/-- Front and what stands behind, lowered. -/
theorem rd_both {l : List Nd} {x : Itm} {r : List Itm} {c : UInt8} {f q : List Itm} (hf : frS l x c = some f) (hq : lowS r = some q) : rdS l (x :: r) c = some (f ++ q) := by
  show (lowS r).bind (fun q => (frS l x c).map fun f => f ++ q) = _
  rw [hq, hf]; rfl
theorem rd_front {l : List Nd} {x : Itm} {r : List Itm} {c : UInt8} (hf : frS l x c = none) : rdS l (x :: r) c = none := by
  show (lowS r).bind (fun q => (frS l x c).map fun f => f ++ q) = _
  rw [hf]; cases lowS r <;> rfl
theorem fr_two {l : List Nd} {x : Itm} {c : UInt8} {f : List Itm} (h : frS l x c = some f) : f.length ≤ 2 := by
  unfold frS at h
  simp only at h
  repeat' split at h
  all_goals first
    | (cases h; done)
    | (injection h with h; subst h; simp)
theorem fr_shape {f : List Itm} {v : Value} {w : World} (h : FrV f v w) : ∃ A c, v = .slice A f.length c ∧ ∀ b, A = some ⟨b, 0, none⟩ → b < w.heap.size := by
  rcases h with ⟨rfl, rfl⟩ | ⟨b, rfl, hb⟩
  · exact ⟨none, 0, rfl, fun b e => by cases e⟩
  · exact ⟨_, _, rfl, fun b' e => by cases e; exact hb.lt⟩
theorem low_len {r q : List Itm} (h : lowS r = some q) : q.length = r.length := by
  unfold lowS at h
  split at h
  · cases h; exact List.length_map _
  · cases h
theorem rd_low {l : List Nd} {x : Itm} {r : List Itm} {c : UInt8} (hq : lowS r = none) : rdS l (x :: r) c = none := by
  show (lowS r).bind (fun q => (frS l x c).map fun f => f ++ q) = _
  rw [hq]; rfl
theorem nxread_any (l : List Nd) (A : Option Addr) (c : Nat) (s : List Itm) (B : Option Addr) (c2 : Nat) (u : UInt8) (m : Nat) (h0 : 0 < l.length) (hlen : l.length ≤ 1073741824) (htx : Txt l) (hs : ∀ y ∈ s, HdF l y) (hrd : rdyS l s = true) (hsl : s.length ≤ 1000) (hc2 : s.length ≤ c2) (hI : ItOk s) (w : World) (hrow : NRow w A l) (hss : ItRow w B s) (hm : IsMapK w m rdL) :
    Calls Try.prog 34 #[.map (some m), .agg #[.slice A l.length c], .slice B s.length c2, .int .u8 (u.toNat : Int)] w (NrdP (rdS l s u) w) := by
  have hb1 := (Below.refl w.heap.size w).alloc (Nat.le_refl _) (.cells #[.slice A l.length c] 24)
  have HS : Hid (NrS w A l c B s m (w.alloc (.cells #[.slice A l.length c] 24))) := ⟨hb1, hrow.later hb1, Blk.new _ _ _, hss.later hb1, hm.later hb1⟩
  clear hb1 hrow hss hm
  cases s with
  | nil =>
    have HP : Hid (NrdP (rdS l [] u) w (.returned (.tuple #[.slice none 0 0, .bool false])) (w.alloc (.cells #[.slice A l.length c] 24))) := ⟨_, rfl, HS.out.bel, (fun q hq => by cases hq), fun _ => rfl⟩
    clear HS
    simp only [List.length_nil]
    go_enter Try.func34, Try.ntmps34
    go_wp2
    go_ret2
    exact HP.out
  | cons x r =>
    have hx : HdF l x := hs x (List.mem_cons_self ..)
    obtain ⟨i, hil, hin⟩ := hx.inl h0
    obtain ⟨fK, hlk, hen, hcall⟩ := rd_at h0 hx (by simpa [rdyS] using hrd) htx u
    have hIr : ItOk r := fun y hy => hI y (List.mem_cons_of_mem _ hy)
    obtain ⟨kk, nn, lo, hi⟩ := x
    simp only at hin
    subst hin
    simp only [Int.toNat_natCast] at hcall hlk
    have HN := Lib.hid (fun (w' : World) (h : NRow w' A l) => nxNode_any l A c ⟨kk, (i : Int), lo, hi⟩ i hil rfl hlen w' h)
    have HHK := Lib.hid hlk
    have HEN := Lib.hid hen
    have HCA := Lib.hid hcall
    have HFR := Lib.hid (fun (f q : List Itm) (h1 : frS l ⟨kk, (i : Int), lo, hi⟩ u = some f) (h2 : lowS r = some q) => rd_both h1 h2)
    have HFN := Lib.hid (fun (h1 : frS l ⟨kk, (i : Int), lo, hi⟩ u = none) => rd_front (r := r) h1)
    have HLN := Lib.hid (fun (h1 : lowS r = none) => rd_low (l := l) (x := ⟨kk, (i : Int), lo, hi⟩) (c := u) h1)
    have HFL := Lib.hid (fun (f : List Itm) (h : frS l ⟨kk, (i : Int), lo, hi⟩ u = some f) => fr_two h)
    obtain ⟨o, ho⟩ : ∃ o, frS l ⟨kk, (i : Int), lo, hi⟩ u = o := ⟨_, rfl⟩
    rw [ho] at HCA HFR HFN HFL
    obtain ⟨bb, ob, rfl, -, -⟩ := HS.out.ss 0 (by simp)
    have HLR := Lib.hid (fun (w' : World) (A' : Option Addr) (k : Nat) (h : ItRow w' A' r) => ilower_any r A' k (by simp at hsl; omega) hIr w' h)
    have HAT : Hid (∀ w', ItRow w' (some ⟨bb, ob, none⟩) (⟨kk, (i : Int), lo, hi⟩ :: r) → At4 w' bb ob ⟨kk, (i : Int), lo, hi⟩) := fun w' h => by have := h.at (i := 0) (by simp) rfl; simpa using this
    unfold At4 at HAT
    simp only at HAT
    obtain ⟨n, hn⟩ : ∃ n, ((⟨kk, (i : Int), lo, hi⟩ : Itm) :: r).length = n := ⟨_, rfl⟩
    have HNL : Hid (n = r.length + 1) := by unfold Hid; rw [← hn]; simp
    rw [hn] at hsl hc2 ⊢
    have hn1 : 1 ≤ n := by have := HNL.out; omega
    have hn0 : 0 < n := hn1
    have hnz : (1 : Int) ≤ (n : Int) := by omega
    have hnb : ((n : Int) == 0) = false := by rw [beq_eq_false_iff_ne]; omega
    clear hlk hen hcall ho hs hrd hx hI hIr hn
    obtain ⟨o9, ho9⟩ : ∃ o9, rdS l (⟨kk, (i : Int), lo, hi⟩ :: r) u = o9 := ⟨_, rfl⟩
    rw [ho9] at HFR HFN HLN ⊢
    clear ho9
    go_enter Try.func34, Try.ntmps34
    go_upto_region 3 with (fail)
    generalize w.alloc (.cells #[.slice A l.length c] 24) = w1 at *
    obtain ⟨x0, x1, x2, x3⟩ := HAT.out w1 HS.out.ss
    have hlk := HHK.out m w1 HS.out.map
    go_upto_region 6 with (fail)
    clear hlk x0 x1 x2 x3
    unfold itV ndC at HN
    unfold rdC at HCA
    simp only at HN HCA
    generalize atN l i = n0 at *
    obtain ⟨nk, na, nb, nlo, nhi, ncls, ntext⟩ := n0
    simp only at HN HCA
    generalize bs ntext = T at *
    generalize (wd ncls 0 : Int) = a0 at *
    generalize (wd ncls 1 : Int) = a1 at *
    generalize (wd ncls 2 : Int) = a2 at *
    generalize (wd ncls 3 : Int) = a3 at *
    refine wp_region_stable (S := (NrS w A l c (some ⟨bb, ob, none⟩) (⟨kk, (i : Int), lo, hi⟩ :: r) m)) (hSt := fun _ _ h hb => h.later hb) (plan := [[(10, none)], [(2, none)], [(30, some 1)], [(31, some 2)], [(5, none)], [(2, none)], [(34, some 5)], [(35, some 6)], [(33, some 4), (36, some 7)], [(3, none)], [(32, some 3), (37, some 8), (38, some 9)], [(29, some 0), (39, some 10)], [(40, some 11)], [(28, some 12)], [(28, some 12)], [(41, some 13)], [(42, some 14)]]) (by kernel_rfl) (by kernel_rfl) (by kernel_rfl) ?hS ?_
    rotate_left
    iterate 11 first
      | (refine chain_skip (by rfl) (by rfl) ?_)
      | (apply chain_want (by rfl)
         · intro act wx hS hr
           simp at hr
           have e0 := hS.box.cell 0
           simp at e0
           obtain ⟨x0, x1, x2, x3⟩ := HAT.out _ hS.ss
           have hen := HEN.out
           go_simp
           (try go_ints)
           first
             | ((with_reducible refine (HN.out _ hS.row).mono ?_); rintro e w' ⟨rfl, hb⟩; exact Done.mk hb)
             | exact Done.same
        )
    (refine chain_rel (NtV o) (NtV.later o) (by rfl) ?_ ?_
     · intro act wx hS hr
       simp at hr
       have e0 := hS.box.cell 0
       simp at e0
       obtain ⟨x0, x1, x2, x3⟩ := HAT.out _ hS.ss
       have hen := HEN.out
       all_goals go_simp
       ((refine (HCA.out _).mono ?_); rintro e w' ⟨v9, rfl, hv, hb⟩; exact Done.rel (p := NtV o) hb ⟨_, rfl, hv⟩)
    )
    (refine chain_rel (NtV o) (NtV.later o) (by rfl) ?_ ?_
     · intro act wx hS hr
       simp at hr
       have e0 := hS.box.cell 0
       simp at e0
       obtain ⟨x0, x1, x2, x3⟩ := HAT.out _ hS.ss
       have hen := HEN.out
       obtain ⟨v5, hr, u5, rfl, hu5⟩ := hr
       all_goals go_simp
       exact Done.rel (p := NtV o) (Below.refl _ _) ⟨_, rfl, hu5⟩
    )
    (refine chain_rel (FroV o) (FroV.later o) (by rfl) ?_ ?_
     · intro act wx hS hr
       simp at hr
       have e0 := hS.box.cell 0
       simp at e0
       obtain ⟨x0, x1, x2, x3⟩ := HAT.out _ hS.ss
       have hen := HEN.out
       obtain ⟨v5, hr, u5, rfl, hu5⟩ := hr
       all_goals go_simp
       exact Done.rel (p := FroV o) (Below.refl _ _) hu5
    )
    (refine chain_rel (NbV o.isSome) (NbV.later o.isSome) (by rfl) ?_ ?_
     · intro act wx hS hr
       simp at hr
       have e0 := hS.box.cell 0
       simp at e0
       obtain ⟨x0, x1, x2, x3⟩ := HAT.out _ hS.ss
       have hen := HEN.out
       obtain ⟨v5, hr, u5, rfl, hu5⟩ := hr
       all_goals go_simp
       exact Done.rel (p := NbV o.isSome) (Below.refl _ _) rfl
    )
    (refine chain_rel (FroV o) (FroV.later o) (by rfl) ?_ ?_
     · intro act wx hS hr
       simp at hr
       have e0 := hS.box.cell 0
       simp at e0
       obtain ⟨x0, x1, x2, x3⟩ := HAT.out _ hS.ss
       have hen := HEN.out
       obtain ⟨v5, hr, hu5⟩ := hr
       all_goals go_simp
       exact Done.rel (p := FroV o) (Below.refl _ _) hu5
    )
    (refine chain_rel (NbV o.isSome) (NbV.later o.isSome) (by rfl) ?_ ?_
     · intro act wx hS hr
       simp at hr
       have e0 := hS.box.cell 0
       simp at e0
       obtain ⟨x0, x1, x2, x3⟩ := HAT.out _ hS.ss
       have hen := HEN.out
       obtain ⟨v5, hr, rfl⟩ := hr
       all_goals go_simp
       exact Done.rel (p := NbV o.isSome) (Below.refl _ _) rfl
    )
    show ∀ w', _ → _
    intro wz hz
    simp [Act.put]
    case hS => exact HS.out
    intro v11 hv11 v12 hv12 v13 hv13 v14 hv14 v15 hv15 v16 hv16
    obtain rfl : v16 = .bool o.isSome := hv16
    have HF15 : Hid (FroV o v15 wz) := hv15
    have HZ := Lib.hid hz
    clear hv11 hv12 hv13 hv14 hv15 hz HN HCA HAT HS HEN HHK
    cases o with
    | none =>
      have HO9 : Hid (o9 = none) := HFN.out rfl
      simp only [Option.isSome_none]
      go_wp2
      go_ret2
      exact ⟨_, by rw [HO9.out]; rfl, HZ.out.bel, (fun q hq => by rw [HO9.out] at hq; cases hq), fun _ => rfl⟩
    | some f =>
      have HFV : Hid (FrV f v15 wz) := HF15.out f rfl
      have HF2 : Hid (f.length ≤ 2) := HFL.out f rfl
      simp only [Option.isSome_some]
      clear HF15 HFL HFN
      by_cases hc1 : c2 = 1
      · have hn1 : n = 1 := by omega
        have HR1 : Hid (r = []) := by have := HNL.out; exact List.length_eq_zero_iff.1 (by omega)
        have hr0 : r.length = 0 := by rw [HR1.out]; rfl
        have HL0 := Lib.hid (HLR.out wz (some ⟨bb, ob, none⟩) 0 (by rw [HR1.out]; exact ItRow.nil _ _))
        rw [hr0] at HL0
        subst hc1
        subst hn1
        clear hr0
        go_wp2_with fail
        refine HL0.out.mono ?_; intro e w5 hlw
        clear HL0 HLR
        rcases hlw with ⟨hb, ⟨hl, rfl⟩ | ⟨v, q, hl, rfl, ho⟩⟩
        · have HO9 : Hid (o9 = none) := HLN.out hl
          have HB5 := Lib.hid (HZ.out.bel.trans (hb.mono HZ.out.bel.size))
          clear hl hb
          go_wp2
          go_ret2
          exact ⟨_, by rw [HO9.out]; rfl, HB5.out, (fun q hq => by rw [HO9.out] at hq; cases hq), fun _ => rfl⟩
        · have HO9 : Hid (o9 = some (f ++ q)) := HFR.out f q rfl hl
          have HB5 := Lib.hid (HZ.out.bel.trans (hb.mono HZ.out.bel.size))
          obtain ⟨Af, cf, hfs, hfb⟩ := fr_shape HFV.out
          have hne : ∀ b, Af = some ⟨b, 0, none⟩ → v.ownBlock ≠ some b := fun b e1 e2 => by
            have h1 := hfb b e1
            have h2 := (ho.lt b e2).1
            omega
          have HVB : Hid (∀ k, v.ownBlock = some k → w.heap.size ≤ k) := fun k hk => Nat.le_trans HZ.out.bel.size (ho.lt k hk).1
          have HINS := Lib.hid (nxIns_any f q v Af cf w.heap.size w5 (ho.lower HZ.out.bel.size) HB5.out.size (hfs ▸ HFV.out.later _ _ _ _ hb) hne HF2.out (by have := low_len hl; have := HNL.out; omega))
          subst hfs
          clear hl hb hfb hne ho HFV
          go_wp2_with fail
          refine HINS.out.mono ?_; rintro e w6 ⟨u6, rfl, ho6, hg6⟩
          have HO6 := Lib.hid ho6
          have HB6 := Lib.hid (HB5.out.grown hg6 HB5.out.size HVB.out)
          clear ho6 hg6 HINS
          go_wp2
          go_ret2
          exact ⟨_, by rw [HO9.out]; rfl, HB6.out, (fun q hq => by rw [HO9.out] at hq; cases hq; exact HO6.out), (fun h => by rw [HO9.out] at h; cases h)⟩
      · have hc1z : ¬ (c2 : Int) = 1 := by omega
        have hnr : n - 1 = r.length := by have := HNL.out; omega
        have HL0 := Lib.hid (HLR.out wz (some ⟨bb, ob + 4, none⟩) (c2 - 1) HZ.out.ss.tl)
        rw [← hnr] at HL0
        clear hnr
        go_wp2_with fail
        refine HL0.out.mono ?_; intro e w5 hlw
        clear HL0 HLR
        rcases hlw with ⟨hb, ⟨hl, rfl⟩ | ⟨v, q, hl, rfl, ho⟩⟩
        · have HO9 : Hid (o9 = none) := HLN.out hl
          have HB5 := Lib.hid (HZ.out.bel.trans (hb.mono HZ.out.bel.size))
          clear hl hb
          go_wp2
          go_ret2
          exact ⟨_, by rw [HO9.out]; rfl, HB5.out, (fun q hq => by rw [HO9.out] at hq; cases hq), fun _ => rfl⟩
        · have HO9 : Hid (o9 = some (f ++ q)) := HFR.out f q rfl hl
          have HB5 := Lib.hid (HZ.out.bel.trans (hb.mono HZ.out.bel.size))
          obtain ⟨Af, cf, hfs, hfb⟩ := fr_shape HFV.out
          have hne : ∀ b, Af = some ⟨b, 0, none⟩ → v.ownBlock ≠ some b := fun b e1 e2 => by
            have h1 := hfb b e1
            have h2 := (ho.lt b e2).1
            omega
          have HVB : Hid (∀ k, v.ownBlock = some k → w.heap.size ≤ k) := fun k hk => Nat.le_trans HZ.out.bel.size (ho.lt k hk).1
          have HINS := Lib.hid (nxIns_any f q v Af cf w.heap.size w5 (ho.lower HZ.out.bel.size) HB5.out.size (hfs ▸ HFV.out.later _ _ _ _ hb) hne HF2.out (by have := low_len hl; have := HNL.out; omega))
          subst hfs
          clear hl hb hfb hne ho HFV
          go_wp2_with fail
          refine HINS.out.mono ?_; rintro e w6 ⟨u6, rfl, ho6, hg6⟩
          have HO6 := Lib.hid ho6
          have HB6 := Lib.hid (HB5.out.grown hg6 HB5.out.size HVB.out)
          clear ho6 hg6 HINS
          go_wp2
          go_ret2
          exact ⟨_, by rw [HO9.out]; rfl, HB6.out, (fun q hq => by rw [HO9.out] at hq; cases hq; exact HO6.out), (fun h => by rw [HO9.out] at h; cases h)⟩
end Go.Proofs.Ytidoofdofdhjpaa
/- Read: walked. -/
namespace Go.Proofs.Ytidoofdofdhjpaa
open Go Go.RowKit
set_option linter.unusedVariables false
set_option linter.unusedSimpArgs false
set_option maxRecDepth 100000
set_option maxHeartbeats 16000000

structure NxqS (w0 : World) (A : Option Addr) (l : List Nd) (c : Nat) (B : Option Addr) (s : List Itm) (w : World) : Prop where
  bel : Below w0.heap.size w0 w
  row : NRow w A l
  box : Blk w w0.heap.size #[.slice A l.length c] 24
  ss : ItRow w B s
theorem NxqS.later {w0 w w' : World} {A : Option Addr} {l : List Nd} {c : Nat} {B : Option Addr} {s : List Itm} (h : NxqS w0 A l c B s w) (hb : Below w.heap.size w w') : NxqS w0 A l c B s w' :=
  ⟨h.bel.trans (hb.mono h.bel.size), h.row.later hb, h.box.later hb, h.ss.later hb⟩
def MapV (v : Value) (w : World) : Prop := ∃ m, v = .map (some m) ∧ IsMapK w m rdL
theorem MapV.later (v : Value) (w w' : World) (h : MapV v w) (hb : Below w.heap.size w w') : MapV v w' := by
  obtain ⟨m, h1, h2⟩ := h
  exact ⟨m, h1, h2.later hb⟩
/-- What is read: a state in new memory, or nothing. -/
def OwO (o : Option (List Itm)) (b : Nat) (u : Value) (w : World) : Prop := (∀ q, o = some q → OwnIt w b u q) ∧ (o = none → u = .slice none 0 0)
theorem OwO.later (o : Option (List Itm)) (b : Nat) (v : Value) (w w' : World) (h : OwO o b v w) (hb : Below w.heap.size w w') : OwO o b v w' := ⟨fun q hq => (h.1 q hq).later hb, h.2⟩
def TupO (o : Option (List Itm)) (b : Nat) (v : Value) (w : World) : Prop := ∃ u, v = .tuple #[u, .bool o.isSome] ∧ OwO o b u w
theorem TupO.later (o : Option (List Itm)) (b : Nat) (v : Value) (w w' : World) (h : TupO o b v w) (hb : Below w.heap.size w w') : TupO o b v w' := by
  obtain ⟨u, h1, h2⟩ := h
  exact ⟨u, h1, h2.later _ _ _ _ _ hb⟩
theorem nxRead_any (l : List Nd) (A : Option Addr) (c : Nat) (s : List Itm) (B : Option Addr) (c2 : Nat) (u : UInt8) (h0 : 0 < l.length) (hlen : l.length ≤ 1073741824) (htx : Txt l) (hs : ∀ y ∈ s, HdF l y) (hrd : rdyS l s = true) (hsl : s.length ≤ 1000) (hc2 : s.length ≤ c2) (hI : ItOk s) (w : World) (hrow : NRow w A l) (hss : ItRow w B s) :
    Calls Try.prog 18 #[.agg #[.slice A l.length c], .slice B s.length c2, .int .u8 (u.toNat : Int)] w (NrdP (rdS l s u) w) := by
  have hb1 := (Below.refl w.heap.size w).alloc (Nat.le_refl _) (.cells #[.slice A l.length c] 24)
  have HS : Hid (NxqS w A l c B s (w.alloc (.cells #[.slice A l.length c] 24))) := ⟨hb1, hrow.later hb1, Blk.new _ _ _, hss.later hb1⟩
  have HC : Hid (∀ m w', NRow w' A l → ItRow w' B s → IsMapK w' m rdL → Calls Try.prog 34 #[.map (some m), .agg #[.slice A l.length c], .slice B s.length c2, .int .u8 (u.toNat : Int)] w' (NrdP (rdS l s u) w')) := fun m w' h1 h2 h3 => nxread_any l A c s B c2 u m h0 hlen htx hs hrd hsl hc2 hI w' h1 h2 h3
  clear hb1 hrow hss hs hrd hI htx
  generalize rdS l s u = o at *
  go_enter Try.func18, Try.ntmps18
  go_upto_region 1 with (fail)
  generalize w.alloc (.cells #[.slice A l.length c] 24) = w1 at *
  generalize s.length = n at *
  refine wp_region_stable (S := (NxqS w A l c B s)) (hSt := fun _ _ h hb => h.later hb) (plan := [[], [(3, none)], [(1, none)], [(2, none)], [(8, some 0), (9, some 1), (10, some 2), (11, some 3)], [(12, some 4)], [(12, some 4)], [(13, some 5)], [(14, some 6)]]) (by kernel_rfl) (by kernel_rfl) (by kernel_rfl) ?hS ?_
  rotate_left
  (refine chain_rel (MapV) (MapV.later) (by rfl) ?_ ?_
   · intro act wx hS hr
     simp at hr
     have e0 := hS.box.cell 0
     simp at e0
     all_goals go_simp
     ((refine (nxTable_any _).mono ?_); rintro e w' ⟨m, rfl, hm, hb⟩; exact Done.rel (p := MapV) hb ⟨_, rfl, hm⟩)
  )
  iterate 3 first
    | (refine chain_skip (by rfl) (by rfl) ?_)
    | (apply chain_want (by rfl)
       · intro act wx hS hr
         simp at hr
         have e0 := hS.box.cell 0
         simp at e0
         go_simp
         (try go_ints)
         first
           | exact Done.same
      )
  (refine chain_rel (TupO o w.heap.size) (TupO.later o w.heap.size) (by rfl) ?_ ?_
   · intro act wx hS hr
     simp at hr
     have e0 := hS.box.cell 0
     simp at e0
     obtain ⟨⟨v8, hr8, m, rfl, hm⟩, hr9, hr10, hr11⟩ := hr
     all_goals go_simp
     ((refine (HC.out _ _ hS.row hS.ss hm).mono ?_); rintro e w' ⟨v9, rfl, hb, hv1, hv2⟩; exact Done.rel (p := TupO o w.heap.size) hb ⟨_, rfl, (fun q hq => (hv1 q hq).lower hS.bel.size), hv2⟩)
  )
  (refine chain_rel (OwO o w.heap.size) (OwO.later o w.heap.size) (by rfl) ?_ ?_
   · intro act wx hS hr
     simp at hr
     have e0 := hS.box.cell 0
     simp at e0
     obtain ⟨v5, hr, u5, rfl, hu5⟩ := hr
     all_goals go_simp
     exact Done.rel (p := OwO o w.heap.size) (Below.refl _ _) hu5
  )
  (refine chain_rel (NbV o.isSome) (NbV.later o.isSome) (by rfl) ?_ ?_
   · intro act wx hS hr
     simp at hr
     have e0 := hS.box.cell 0
     simp at e0
     obtain ⟨v5, hr, u5, rfl, hu5⟩ := hr
     all_goals go_simp
     exact Done.rel (p := NbV o.isSome) (Below.refl _ _) rfl
  )
  (refine chain_rel (OwO o w.heap.size) (OwO.later o w.heap.size) (by rfl) ?_ ?_
   · intro act wx hS hr
     simp at hr
     have e0 := hS.box.cell 0
     simp at e0
     obtain ⟨v5, hr, hu5⟩ := hr
     all_goals go_simp
     exact Done.rel (p := OwO o w.heap.size) (Below.refl _ _) hu5
  )
  (refine chain_rel (NbV o.isSome) (NbV.later o.isSome) (by rfl) ?_ ?_
   · intro act wx hS hr
     simp at hr
     have e0 := hS.box.cell 0
     simp at e0
     obtain ⟨v5, hr, rfl⟩ := hr
     all_goals go_simp
     exact Done.rel (p := NbV o.isSome) (Below.refl _ _) rfl
  )
  show ∀ w', _ → _
  intro wz hz
  simp [Act.put]
  case hS => exact HS.out
  intro v0 hv0 v4 hv4 v5 hv5 v6 hv6 v7 hv7 v8 hv8
  obtain rfl : v8 = .bool o.isSome := hv8
  have HF : Hid (OwO o w.heap.size v7 wz) := hv7
  have HZ := Lib.hid hz
  clear hv0 hv4 hv5 hv6 hv7 hz
  go_wp2
  go_ret2
  exact ⟨_, rfl, HZ.out.bel, HF.out.1, HF.out.2⟩
end Go.Proofs.Ytidoofdofdhjpaa
