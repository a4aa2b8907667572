/- Rows of pieces in memory. -/
import Derived.Test.YtcgjmnhmhiddkaaGreatDoorM16
import Derived.Test.YtcgjmnhmhiddkaaGreatDoorM08
import Derived.Test.YtcgjmnhmhiddkaaGreatDoorM03
import Derived.Shelf.Spec.SlicesGrow
import Derived.Shelf.SlicesQ.Reverse
import Derived.Laws.AppendOwn
namespace Go.Proofs.YtcgjmnhmhiddkaaGreatDoor
open Go Go.RowKit
set_option linter.unusedVariables false
set_option linter.unusedSimpArgs false

/-- A piece's cells. -/
def pcC : Pc → Array Value
  | .sg s => #[.string (bs s), .int .i64 0, .int .i64 0]
  | .nd i lev => #[.string ⟨#[]⟩, .int .i64 i, .int .i64 lev]
def pc0 : Pc := .nd 0 0
def flat3 : List Pc → List Value
  | [] => []
  | t :: l => (pcC t).toList ++ flat3 l
theorem pcC_size (t : Pc) : (pcC t).toList.length = 3 := by cases t <;> rfl
theorem flat3_length : ∀ l, (flat3 l).length = l.length * 3
  | [] => rfl
  | t :: l => by rw [flat3, List.length_append, flat3_length l, pcC_size, List.length_cons]; omega
theorem flat3_append : ∀ l m, flat3 (l ++ m) = flat3 l ++ flat3 m
  | [], m => rfl
  | t :: l, m => by show (pcC t).toList ++ flat3 (l ++ m) = _; rw [flat3_append l m, flat3, List.append_assoc]
theorem flat3_get : ∀ (l : List Pc) (i j : Nat), i < l.length → j < 3 → (flat3 l)[i * 3 + j]? = (pcC (l.getD i pc0))[j]?
  | [], i, j, h, _ => by simp at h
  | s :: l, 0, j, _, hj => by
    rw [flat3, List.getElem?_append_left (by rw [pcC_size]; omega)]
    simp
  | s :: l, i + 1, j, hi, hj => by
    have ih := flat3_get l i j (by simpa using hi) hj
    show ((pcC s).toList ++ flat3 l)[(i + 1) * 3 + j]? = _
    rw [List.getElem?_append_right (by rw [pcC_size]; omega), pcC_size, show (i + 1) * 3 + j - 3 = i * 3 + j by omega, ih]
    simp
theorem flat3_ones : ∀ (l : List Pc) (u : Value), u ∈ flat3 l → u.oneCell' = true
  | [], u, h => by cases h
  | t :: l, u, h => by
    rw [flat3, List.mem_append] at h
    rcases h with h | h
    · cases t <;> simp [pcC] at h <;> rcases h with rfl | rfl | rfl <;> rfl
    · exact flat3_ones l u h
/-- A row of pieces that is read. -/
def PRow (w : World) (a : Option Addr) (l : List Pc) : Prop :=
  ∀ i, i < l.length → ∃ b off, a = some ⟨b, off, none⟩ ∧ b < w.heap.size ∧ ∀ j, j < 3 → w.cell? ⟨b, off + i * 3 + j, none⟩ = (pcC (l.getD i pc0))[j]?
theorem PRow.later {w w' : World} {a : Option Addr} {l : List Pc} (h : PRow w a l) (hb : Below w.heap.size w w') : PRow w' a l := fun i hi => by
  obtain ⟨b, off, ha, hlt, hc⟩ := h i hi
  exact ⟨b, off, ha, Nat.lt_of_lt_of_le hlt hb.size, fun j hj => (hb.cell (p := ⟨b, off + i * 3 + j, none⟩) hlt).trans (hc j hj)⟩
theorem PRow.nil (w : World) (a : Option Addr) : PRow w a [] := fun i hi => by simp at hi
/-- Pieces that a call owns. -/
def OwnP (w : World) (base : Nat) (v : Value) (l : List Pc) : Prop := w.ownsRow base 92 3 v l.length (flat3 l)
theorem OwnP.nil (w : World) (base : Nat) : OwnP w base (.slice none 0 0) [] := ⟨rfl, .inl ⟨rfl, rfl⟩⟩
theorem OwnP.later {w w' : World} {base : Nat} {v : Value} {l : List Pc} (h : OwnP w base v l) (hb : Below w.heap.size w w') : OwnP w' base v l := ownsRow_later h hb
theorem OwnP.lower {w : World} {base base' : Nat} {v : Value} {l : List Pc} (h : OwnP w base v l) (hb : base' ≤ base) : OwnP w base' v l := by
  obtain ⟨h0, ⟨hv, hn⟩ | ⟨g, cap, cur, hv, hg, hr⟩⟩ := h
  · exact ⟨h0, .inl ⟨hv, hn⟩⟩
  · exact ⟨h0, .inr ⟨g, cap, cur, hv, Nat.le_trans hb hg, hr⟩⟩
theorem OwnP.row {w : World} {base : Nat} {v : Value} {l : List Pc} (h : OwnP w base v l) : ∃ a cap, v = .slice a l.length cap ∧ PRow w a l := by
  obtain ⟨_, ⟨hv, hn⟩ | ⟨g, cap, cur, hv, hb, hg, hc, hm, hs, ht⟩⟩ := h
  · have : l = [] := List.length_eq_zero_iff.1 hn
    subst this
    exact ⟨none, 0, hv, PRow.nil w none⟩
  · refine ⟨_, cap, hv, fun i hi => ⟨g, 0, rfl, Blk.lt (w := w) (b := g) (vs := cur) (t := 92) hg, fun j hj => ?_⟩⟩
    rw [Blk.cell (w := w) (b := g) (vs := cur) (t := 92) hg, ← flat3_get l i j hi hj, ← ht, List.getElem?_take, if_pos (by omega)]
    simp
/-- Where it stands. -/
theorem OwnP.blk {w : World} {base : Nat} {v : Value} {l : List Pc} (h : OwnP w base v l) (hne : 0 < l.length) : ∃ g cap cur, v = .slice (some ⟨g, 0, none⟩) l.length cap ∧ base ≤ g ∧ Blk w g cur 92 ∧ l.length ≤ cap ∧ cap ≤ maxLen ∧ cur.size = cap * 3 ∧ cur.toList.take (l.length * 3) = flat3 l := by
  obtain ⟨_, ⟨hv, hn⟩ | ⟨g, cap, cur, hv, hb, hg, hc, hm, hs, ht⟩⟩ := h
  · omega
  · exact ⟨g, cap, cur, hv, hb, hg, hc, hm, hs, ht⟩
/-- Without its last piece it stands where it did. -/
theorem OwnP.drop {w : World} {base g cap : Nat} {l : List Pc} {p : Pc} (h : OwnP w base (.slice (some ⟨g, 0, none⟩) (l.length + 1) cap) (l ++ [p])) : OwnP w base (.slice (some ⟨g, 0, none⟩) l.length cap) l := by
  obtain ⟨_, ⟨hv, hn⟩ | ⟨g', cap', cur, hv, hb, hg, hc, hm, hs, ht⟩⟩ := h
  · cases hv
  · have hv' := hv
    simp only [Value.slice.injEq, Option.some.injEq, Addr.mk.injEq] at hv'
    obtain ⟨⟨rfl, -, -⟩, -, rfl⟩ := hv'
    rw [List.length_append] at hc ht
    simp only [List.length_cons, List.length_nil] at hc ht
    refine ⟨flat3_length l, .inr ⟨g, cap, cur, rfl, hb, hg, by omega, hm, hs, ?_⟩⟩
    have e : cur.toList.take (l.length * 3) = (cur.toList.take ((l.length + 1) * 3)).take (l.length * 3) := by rw [List.take_take]; congr 1; omega
    rw [e, ht, flat3_append, ← flat3_length l, List.take_left]
theorem infoPc : (Tryz.prog.info? 92).map (fun i => (i.zero, i.size, i.bytes)) = some (some (.agg #[.string ⟨#[]⟩, .int .i64 0, .int .i64 0]), 3, 32) := by kernel_rfl
theorem PRow.news {w : World} {b oo : Nat} {r : List Pc} (hr : PRow w (some ⟨b, oo, none⟩) r) : ∀ (j : Nat) (u : Value), (flat3 r)[j]? = some u → w.cell? ((⟨b, oo, none⟩ : Addr).add j) = some u := by
  intro j u hu
  have hj : j < r.length * 3 := by rw [← flat3_length]; exact (List.getElem?_eq_some_iff.1 hu).1
  have hd : j / 3 < r.length := by omega
  obtain ⟨b', off, hA, _, hc⟩ := hr (j / 3) hd
  cases hA
  have h1 := hc (j % 3) (Nat.mod_lt _ (by decide))
  rw [← flat3_get r (j / 3) (j % 3) hd (Nat.mod_lt _ (by decide)), show j / 3 * 3 + j % 3 = j by omega, hu] at h1
  have hadd : (⟨b, oo, none⟩ : Addr).add j = ⟨b, oo + j, none⟩ := by unfold Addr.add; split <;> simp_all
  rw [hadd, ← h1]; congr 2; omega
set_option maxRecDepth 100000 in
/-- An append of a row of pieces to pieces of its own. -/
theorem wp_append_prow {w : World} {o : Oper} {a : Act} {K : Act → World → Prop} {Q : Exit → Act → World → Prop} (s x : Operand)
    (ho : o.op = .call { callee := .builtin .append, args := #[s, x], argTypes := #[94, 94] })
    (base : Nat) (v : Value) (l : List Pc) (hs : a.eval s = v) (hown : OwnP w base v l)
    (b oo c : Nat) (r : List Pc) (hx : a.eval x = .slice (some ⟨b, oo, none⟩) r.length c) (hrow : PRow w (some ⟨b, oo, none⟩) r) (hrl : 0 < r.length) (hlen : l.length + r.length < 1073741824) (hbase : base ≤ w.heap.size)
    (h : ∀ v' w', OwnP w' base v' (l ++ r) → w.grownBy w' v.ownBlock → K (a.put o.dst v') w') : o.wp Tryz.prog a w K Q := by
  obtain ⟨ib, hib, hz0, hz1, hz2⟩ := info_parts infoPc
  obtain ⟨v', w', hr, h2, h3, _⟩ := run_append_own (P := Tryz.prog) w base 94 o.type 92 ib _ 3 32 Tryz.underlying94 hib hz0 hz1 hz2 rfl (by decide) v l.length (flat3 l) hown ⟨b, oo, none⟩ r.length c (flat3 r) (by rw [flat3_length]) hrow.news (flat3_ones r) (by unfold maxLen; omega) (by omega) hbase
  unfold Oper.wp execOp
  simp only [ho, resolve, invoke, builtin, Sem.run_bind, Sem.run_pure, Result.andThen_ok, List.map_toArray, List.map_cons, List.map_nil, hs, hx, hr]
  exact h v' w' (by unfold OwnP; rw [List.length_append, flat3_append]; exact h2) h3
theorem wpList_append_prow {w : World} {ops : Array Oper} {rest : List Oper} {o : Oper} {a : Act} {Q : Exit → Act → World → Prop} (hgd : o.guard = none) (s x : Operand)
    (ho : o.op = .call { callee := .builtin .append, args := #[s, x], argTypes := #[94, 94] })
    (base : Nat) (v : Value) (l : List Pc) (hs : a.eval s = v) (hown : OwnP w base v l)
    (b oo c : Nat) (r : List Pc) (hx : a.eval x = .slice (some ⟨b, oo, none⟩) r.length c) (hrow : PRow w (some ⟨b, oo, none⟩) r) (hrl : 0 < r.length) (hlen : l.length + r.length < 1073741824) (hbase : base ≤ w.heap.size)
    (h : ∀ v' w', OwnP w' base v' (l ++ r) → w.grownBy w' v.ownBlock → wpList Tryz.prog ops Q rest (a.put o.dst v') w') : wpList Tryz.prog ops Q (o :: rest) a w :=
  wpList_plain hgd fun K hK => wp_append_prow s x ho base v l hs hown b oo c r hx hrow hrl hlen hbase fun v' w' h1 h2 => hK _ _ (h v' w' h1 h2)
/-- New pieces, laid out. -/
theorem OwnP.new {w : World} {l : List Pc} {n : Nat} {cs : Array Value} (hc : cs.toList = flat3 l) (hn : l.length = n) (hm : n ≤ 1000) : OwnP (w.alloc (.cells cs 92)) w.heap.size (.slice (some ⟨w.heap.size, 0, none⟩) n n) l := by
  have hs : cs.size = n * 3 := by rw [← Array.length_toList, hc, flat3_length, hn]
  refine ⟨flat3_length l, .inr ⟨w.heap.size, n, cs, by rw [hn], Nat.le_refl _, Blk.new w _ _, by omega, by unfold maxLen; omega, hs, ?_⟩⟩
  rw [List.take_of_length_le (by rw [hc, flat3_length]; exact Nat.le_refl _), hc]
end Go.Proofs.YtcgjmnhmhiddkaaGreatDoor
/- Pieces: sign, part: walked. -/
namespace Go.Proofs.YtcgjmnhmhiddkaaGreatDoor
open Go Go.RowKit
set_option linter.unusedVariables false
set_option linter.unusedSimpArgs false

set_option maxHeartbeats 4000000 in
set_option maxRecDepth 100000 in
theorem sign_any (s : List UInt8) (w : World) : Calls Tryz.prog 73 #[.string (bs s)] w (Ans w (.agg (pcC (.sg s)))) := by
  go_enter Tryz.func73, Tryz.ntmps73
  go_wp2
  exact bodyPost_ret (v := .agg (pcC (.sg s))) (by simp [results, Tryz.results73, go_sem, pcC]) rfl ⟨rfl, (Below.refl _ _).alloc (Nat.le_refl _) _⟩
set_option maxHeartbeats 4000000 in
set_option maxRecDepth 100000 in
theorem part_any6 (i lev : Int) (w : World) : Calls Tryz.prog 47 #[.int .i64 i, .int .i64 lev] w (Ans w (.agg (pcC (.nd i lev)))) := by
  go_enter Tryz.func47, Tryz.ntmps47
  go_wp2
  exact bodyPost_ret (v := .agg (pcC (.nd i lev))) (by simp [results, Tryz.results47, go_sem, pcC]) rfl ⟨rfl, (Below.refl _ _).alloc (Nat.le_refl _) _⟩
/-- What is answered is a row of new pieces. -/
def PcPost (w : World) (l : List Pc) (e : Ending) (w' : World) : Prop := ∃ v, e = .returned v ∧ OwnP w' w.heap.size v l ∧ Below w.heap.size w w'
structure KnS (w0 : World) (n : Nd) (w : World) : Prop where
  bel : Below w0.heap.size w0 w
  box : Blk w w0.heap.size (ndC n) 44
theorem KnS.later {w0 w w' : World} {n : Nd} (h : KnS w0 n w) (hb : Below w.heap.size w w') : KnS w0 n w' := ⟨h.bel.trans (hb.mono h.bel.size), h.box.later hb⟩
theorem KnS.new (w : World) (n : Nd) : KnS w n (w.alloc (.cells (ndC n) 44)) := ⟨(Below.refl _ _).alloc (Nat.le_refl _) _, Blk.new _ _ _⟩
theorem KnS.post {w0 w : World} {n : Nd} (h : KnS w0 n w) {l : List Pc} {k : Nat} {cs : Array Value} (hc : cs.toList = flat3 l) (hn : l.length = k) (hk : k ≤ 1000) : PcPost w0 l (.returned (.slice (some ⟨w.heap.size, 0, none⟩) k k)) (w.alloc (.cells cs 92)) :=
  ⟨_, rfl, (OwnP.new hc hn hk).lower h.bel.size, h.bel.trans (((Below.refl _ _).alloc (Nat.le_refl _) _).mono h.bel.size)⟩
set_option maxHeartbeats 8000000 in
set_option maxRecDepth 100000 in
theorem kinds4_any (n : Nd) (w : World) : Calls Tryz.prog 76 #[.agg (ndC n)] w (PcPost w [.nd n.a 1, .nd n.b 2]) := by
  have HS0 := Lib.hid (KnS.new w n)
  have HP := Lib.hid (fun i lev w' => part_any6 i lev w')
  have HG := Lib.hid (fun s w' => sign_any s w')
  obtain ⟨kind, a, b, lo, hi, cls_, text⟩ := n
  unfold ndC at HS0 ⊢
  simp only at HS0 ⊢
  simp only [pcC] at HP HG
  go_enter Tryz.func76, Tryz.ntmps76
  go_upto_region 1 with (fail)
  generalize w.alloc (.cells #[.int .i64 kind, .int .i64 a, .int .i64 b, .int .i64 lo, .int .i64 hi, .int .u64 (wd cls_ 0), .int .u64 (wd cls_ 1), .int .u64 (wd cls_ 2), .int .u64 (wd cls_ 3), .string (bs text)] 44) = w1 at *
  obtain ⟨f0, f1, f2, f3, f4, f5, f6, f7, f8, f9⟩ := ten_cells HS0.out.box
  refine wp_region_stable_tail 6 (S := (KnS w ⟨kind, a, b, lo, hi, cls_, text⟩)) (hSt := fun _ _ h hb => h.later hb) (plan := [[(1, none)], [(3, some 0)], [(4, some 1)], [(1, none)], [(6, some 3)], [(7, some 4)]]) rfl rfl (by kernel_rfl) (by kernel_rfl) (by kernel_rfl) (by kernel_rfl) ?hS ?_
  rotate_left
  iterate 6 first
    | (refine chain_skip (by rfl) (by rfl) ?_)
    | (apply chain_want (by rfl)
       · intro act wx hS hr
         simp at hr
         obtain ⟨f0, f1, f2, f3, f4, f5, f6, f7, f8, f9⟩ := ten_cells hS.box
         go_simp
         (try go_ints)
         first
           | ((with_reducible refine (HP.out _ _ _).mono ?_); rintro e w' ⟨rfl, hb⟩; exact Done.mk hb)
           | exact Done.same
      )
  show ∀ w', _ → _
  intro wz hz
  simp [Act.put]
  case hS => exact HS0.out
  have HZ := Lib.hid hz
  clear hz
  go_wp2
  go_ret
  exact HZ.out.post rfl rfl (by omega)
set_option maxHeartbeats 8000000 in
set_option maxRecDepth 100000 in
theorem kinds5_any (n : Nd) (w : World) : Calls Tryz.prog 77 #[.agg (ndC n)] w (PcPost w [.nd n.a 0, .sg [124], .nd n.b 1]) := by
  have HS0 := Lib.hid (KnS.new w n)
  have HP := Lib.hid (fun i lev w' => part_any6 i lev w')
  have HG := Lib.hid (fun s w' => sign_any s w')
  obtain ⟨kind, a, b, lo, hi, cls_, text⟩ := n
  unfold ndC at HS0 ⊢
  simp only at HS0 ⊢
  simp only [pcC] at HP HG
  go_enter Tryz.func77, Tryz.ntmps77
  go_upto_region 1 with (fail)
  generalize w.alloc (.cells #[.int .i64 kind, .int .i64 a, .int .i64 b, .int .i64 lo, .int .i64 hi, .int .u64 (wd cls_ 0), .int .u64 (wd cls_ 1), .int .u64 (wd cls_ 2), .int .u64 (wd cls_ 3), .string (bs text)] 44) = w1 at *
  obtain ⟨f0, f1, f2, f3, f4, f5, f6, f7, f8, f9⟩ := ten_cells HS0.out.box
  refine wp_region_stable_tail 7 (S := (KnS w ⟨kind, a, b, lo, hi, cls_, text⟩)) (hSt := fun _ _ h hb => h.later hb) (plan := [[(1, none)], [(3, some 0)], [(4, some 1)], [], [(1, none)], [(7, some 4)], [(8, some 5)]]) rfl rfl (by kernel_rfl) (by kernel_rfl) (by kernel_rfl) (by kernel_rfl) ?hS ?_
  rotate_left
  iterate 7 first
    | (refine chain_skip (by rfl) (by rfl) ?_)
    | (apply chain_want (by rfl)
       · intro act wx hS hr
         simp at hr
         obtain ⟨f0, f1, f2, f3, f4, f5, f6, f7, f8, f9⟩ := ten_cells hS.box
         go_simp
         (try go_ints)
         first
           | ((with_reducible refine (HP.out _ _ _).mono ?_); rintro e w' ⟨rfl, hb⟩; exact Done.mk hb)
           | ((refine (HG.out [124] _).mono ?_); rintro e w' ⟨rfl, hb⟩; exact Done.mk hb)
           | exact Done.same
      )
  show ∀ w', _ → _
  intro wz hz
  simp [Act.put]
  case hS => exact HS0.out
  have HZ := Lib.hid hz
  clear hz
  go_wp2
  go_ret
  exact HZ.out.post rfl rfl (by omega)
set_option maxHeartbeats 8000000 in
set_option maxRecDepth 100000 in
theorem kinds6_any (n : Nd) (w : World) : Calls Tryz.prog 78 #[.agg (ndC n)] w (PcPost w [.nd n.a 2, .sg [42]]) := by
  have HS0 := Lib.hid (KnS.new w n)
  have HP := Lib.hid (fun i lev w' => part_any6 i lev w')
  have HG := Lib.hid (fun s w' => sign_any s w')
  obtain ⟨kind, a, b, lo, hi, cls_, text⟩ := n
  unfold ndC at HS0 ⊢
  simp only at HS0 ⊢
  simp only [pcC] at HP HG
  go_enter Tryz.func78, Tryz.ntmps78
  go_upto_region 1 with (fail)
  generalize w.alloc (.cells #[.int .i64 kind, .int .i64 a, .int .i64 b, .int .i64 lo, .int .i64 hi, .int .u64 (wd cls_ 0), .int .u64 (wd cls_ 1), .int .u64 (wd cls_ 2), .int .u64 (wd cls_ 3), .string (bs text)] 44) = w1 at *
  obtain ⟨f0, f1, f2, f3, f4, f5, f6, f7, f8, f9⟩ := ten_cells HS0.out.box
  go_wp2_with fail
  refine (HP.out _ _ _).mono ?_; rintro e w2 ⟨rfl, hb⟩
  have HS2 := Lib.hid (HS0.out.later hb)
  clear hb
  go_wp2_with fail
  refine (HG.out [42] _).mono ?_; rintro e w3 ⟨rfl, hb⟩
  have HZ := Lib.hid (HS2.out.later hb)
  clear hb
  go_wp2
  go_ret
  exact HZ.out.post rfl rfl (by omega)
set_option maxHeartbeats 8000000 in
set_option maxRecDepth 100000 in
theorem kinds3_any (n : Nd) (ht : n.text.length ≤ 281474976710656) (w : World) : Calls Tryz.prog 75 #[.agg (ndC n)] w (PcPost w [.sg (34 :: (n.text ++ [34]))]) := by
  have HS0 := Lib.hid (KnS.new w n)
  have HP := Lib.hid (fun i lev w' => part_any6 i lev w')
  have HG := Lib.hid (fun s w' => sign_any s w')
  obtain ⟨kind, a, b, lo, hi, cls_, text⟩ := n
  unfold ndC at HS0 ⊢
  simp only at HS0 ⊢
  simp only [pcC] at HP HG
  go_enter Tryz.func75, Tryz.ntmps75
  go_upto_region 1 with (fail)
  generalize w.alloc (.cells #[.int .i64 kind, .int .i64 a, .int .i64 b, .int .i64 lo, .int .i64 hi, .int .u64 (wd cls_ 0), .int .u64 (wd cls_ 1), .int .u64 (wd cls_ 2), .int .u64 (wd cls_ 3), .string (bs text)] 44) = w1 at *
  obtain ⟨f0, f1, f2, f3, f4, f5, f6, f7, f8, f9⟩ := ten_cells HS0.out.box
  simp only at ht
  have hsz : (bs text).size ≤ 281474976710656 := by rw [bs_size]; exact ht
  have HT : Hid (⟨#[34]⟩ ++ bs text ++ ⟨#[34]⟩ = bs (34 :: (text ++ [34]))) := by
    unfold Hid
    rw [show (⟨#[34]⟩ : ByteArray) = bs [34] from rfl, bs_append, bs_append]; rfl
  go_wp2_with fail
  rw [HT.out]
  refine (HG.out _ _).mono ?_; rintro e w3 ⟨rfl, hb⟩
  have HZ := Lib.hid (HS0.out.later hb)
  clear hb
  go_wp2
  go_ret
  exact HZ.out.post rfl rfl (by omega)
end Go.Proofs.YtcgjmnhmhiddkaaGreatDoor
/- Pieces put together: slices.Grow, Concat, Reverse, bracketed: walked. -/
namespace Go.Proofs.YtcgjmnhmhiddkaaGreatDoor
open Go Go.RowKit
set_option linter.unusedVariables false
set_option linter.unusedSimpArgs false
set_option maxRecDepth 100000

def laysGrow_ren : Go.Shelf.Ren := ⟨fun | 4 => 109 | n => n, fun | 0 => 0 | 3 => 3 | 4 => 4 | 9 => 9 | 20 => 20 | 22 => 94 | 25 => 92 | n => n, fun n => n⟩
theorem laysGrow : Lays8.n4 Tryz.prog laysGrow_ren := {
  mixed := by kernel_rfl,
  f4 := ⟨Tryz.f109.name, by kernel_rfl, Tryz.func109.trans (congrArg some (by kernel_rfl))⟩,
  t0 := Tryz.underlying0,
  a0 := Tryz.isAgg0,
  z0 := Tryz.sizeOf0,
  v0 := Tryz.zeroValue0,
  t3 := Tryz.underlying3,
  a3 := Tryz.isAgg3,
  z3 := Tryz.sizeOf3,
  v3 := Tryz.zeroValue3,
  t4 := Tryz.underlying4,
  a4 := Tryz.isAgg4,
  z4 := Tryz.sizeOf4,
  v4 := Tryz.zeroValue4,
  t9 := Tryz.underlying9,
  a9 := Tryz.isAgg9,
  z9 := Tryz.sizeOf9,
  v9 := Tryz.zeroValue9,
  t20 := Tryz.underlying20,
  a20 := Tryz.isAgg20,
  z20 := Tryz.sizeOf20,
  v20 := Tryz.zeroValue20,
  t22 := Tryz.underlying94,
  a22 := Tryz.isAgg94,
  z22 := Tryz.sizeOf94,
  v22 := Tryz.zeroValue94 }
def laysRev_ren : Go.Shelf.Ren := ⟨fun | 35 => 49 | n => n, fun | 0 => 0 | 3 => 3 | 4 => 4 | 22 => 94 | 23 => 92 | n => n, fun n => n⟩
theorem laysRev : SlLaysE0.n35 Tryz.prog laysRev_ren := {
  mixed := by kernel_rfl,
  f35 := ⟨Tryz.f49.name, by kernel_rfl, Tryz.func49.trans (congrArg some (by kernel_rfl))⟩,
  t0 := Tryz.underlying0,
  a0 := Tryz.isAgg0,
  z0 := Tryz.sizeOf0,
  v0 := Tryz.zeroValue0,
  t3 := Tryz.underlying3,
  a3 := Tryz.isAgg3,
  z3 := Tryz.sizeOf3,
  v3 := Tryz.zeroValue3,
  t4 := Tryz.underlying4,
  a4 := Tryz.isAgg4,
  z4 := Tryz.sizeOf4,
  v4 := Tryz.zeroValue4,
  t22 := Tryz.underlying94,
  a22 := Tryz.isAgg94,
  z22 := Tryz.sizeOf94,
  v22 := Tryz.zeroValue94 }
theorem pgrow_any (n : Nat) (h0 : 0 < n) (hn : n ≤ 1000000) (w : World) : Calls Tryz.prog 109 #[.slice none 0 0, .int .i64 (n : Int)] w (fun e w' => ∃ g c, e = .returned (.slice (some ⟨g, 0, none⟩) 0 c) ∧ OwnP w' w.heap.size (.slice (some ⟨g, 0, none⟩) 0 c) [] ∧ Below w.heap.size w w') := by
  obtain ⟨ib, hib, hz0, hz1, hz2⟩ := info_parts infoPc
  have h := Any8.slices_Grow_grow laysGrow ib _ hib hz0 (by rw [hz1]; decide) none 0 0 n [] w (Nat.le_refl _) (by omega) (by rw [hz2]; omega) (by omega) (by simp) (fun _ => rfl) (fun a ha => by cases ha)
  refine h.mono ?_
  rintro e w' ⟨rfl, rfl⟩
  have hb : ∀ o, Below w.heap.size w (w.drew.alloc o) := fun o => by
    have h := (Below.refl w.heap.size w.drew).alloc (Nat.le_refl w.heap.size) o
    exact ⟨h.os, h.tape, h.output, h.size, h.block⟩
  refine ⟨w.heap.size, _, rfl, ⟨rfl, .inr ⟨w.heap.size, _, _, rfl, Nat.le_refl _, heap_alloc_new w.drew _, Nat.zero_le _, grownCap_le_maxLen w (0 + n) 0 92 (by unfold maxLen; omega), ?_, by simp; rfl⟩⟩, hb _⟩
  have hge := grownCap_ge w (0 + n) 0 92
  simp only [Array.size_append, List.size_toArray, size_zeroCells, List.length_nil]
  show 0 + (0 + n - 0) * 3 + (grownCap w (0 + n) 0 92 - (0 + n)) * 3 = grownCap w (0 + n) 0 92 * 3
  omega
theorem wp_append_pnone {w : World} {o : Oper} {a : Act} {K : Act → World → Prop} {Q : Exit → Act → World → Prop} (s x : Operand)
    (ho : o.op = .call { callee := .builtin .append, args := #[s, x], argTypes := #[94, 94] })
    (g n cap : Nat) (hs : a.eval s = .slice (some ⟨g, 0, none⟩) n cap) (hx : a.eval x = .slice none 0 0) (hn : n ≤ cap)
    (h : K (a.put o.dst (.slice (some ⟨g, 0, none⟩) n cap)) w) : o.wp Tryz.prog a w K Q := by
  obtain ⟨ib, hib, hz0, hz1, hz2⟩ := info_parts infoPc
  have hr : ∀ ty, (Builtin.append_ #[94, 94] ty #[.slice (some ⟨g, 0, none⟩) n cap, .slice none 0 0]).run Tryz.prog w = .ok (.slice (some ⟨g, 0, none⟩) n cap) w := fun ty => by
    simp [Builtin.append_, run_underlying Tryz.underlying94, Go.sizeOf, typeInfo, hib, Builtin.lenOf, hn, run_firstCells_none, storeCells]
  unfold Oper.wp execOp
  simp only [ho, resolve, invoke, builtin, Sem.run_bind, Sem.run_pure, Result.andThen_ok, List.map_toArray, List.map_cons, List.map_nil, hs, hx, hr]
  exact h
theorem wpList_append_pnone {w : World} {ops : Array Oper} {rest : List Oper} {o : Oper} {a : Act} {Q : Exit → Act → World → Prop} (hgd : o.guard = none) (s x : Operand)
    (ho : o.op = .call { callee := .builtin .append, args := #[s, x], argTypes := #[94, 94] })
    (g n cap : Nat) (hs : a.eval s = .slice (some ⟨g, 0, none⟩) n cap) (hx : a.eval x = .slice none 0 0) (hn : n ≤ cap)
    (h : wpList Tryz.prog ops Q rest (a.put o.dst (.slice (some ⟨g, 0, none⟩) n cap)) w) : wpList Tryz.prog ops Q (o :: rest) a w :=
  wpList_plain hgd fun K hK => wp_append_pnone s x ho g n cap hs hx hn (hK _ _ h)
/-- A row of rows of pieces. -/
def RRow (w : World) (b : Nat) (R : List (List Pc)) : Prop := b < w.heap.size ∧ ∀ k, k < R.length → ∃ v, w.cell? ⟨b, k, none⟩ = some v ∧ ((R.getD k [] = [] ∧ v = .slice none 0 0) ∨ ∃ g o c, 0 < (R.getD k []).length ∧ v = .slice (some ⟨g, o, none⟩) (R.getD k []).length c ∧ PRow w (some ⟨g, o, none⟩) (R.getD k []))
theorem RRow.later {w w' : World} {b : Nat} {R : List (List Pc)} (h : RRow w b R) (hb : Below w.heap.size w w') : RRow w' b R := ⟨Nat.lt_of_lt_of_le h.1 hb.size, fun k hk => by
  obtain ⟨v, h1, h2⟩ := h.2 k hk
  refine ⟨v, (hb.cell (p := ⟨b, k, none⟩) h.1).trans h1, ?_⟩
  rcases h2 with h2 | ⟨g, o, c, h2, h3, h4⟩
  · exact .inl h2
  · exact .inr ⟨g, o, c, h2, h3, h4.later hb⟩⟩
def CatN (w0 : World) (R : List (List Pc)) (s i : Value) (w : World) : Prop := ∃ k : Nat, k ≤ R.length ∧ i = .int .i64 (k : Int) ∧ s = .int .i64 ((R.take k).flatten.length : Int) ∧ w = w0
structure CatS (w0 : World) (b : Nat) (R : List (List Pc)) (L : List Pc) (v : Value) (w : World) : Prop where
  bel : Below w0.heap.size w0 w
  own : OwnP w w0.heap.size v L
  some : ∃ g c, v = .slice (some ⟨g, 0, none⟩) L.length c ∧ L.length ≤ c
  rows : RRow w b R
def CatL (w0 : World) (b : Nat) (R : List (List Pc)) (v i : Value) (w : World) : Prop := ∃ k : Nat, k ≤ R.length ∧ i = .int .i64 (k : Int) ∧ CatS w0 b R (R.take k).flatten v w
theorem flat_snoc {R : List (List Pc)} {k : Nat} (h : k < R.length) : (R.take (k + 1)).flatten = (R.take k).flatten ++ R.getD k [] := by
  rw [List.getD_eq_getElem?_getD, List.getElem?_eq_getElem h, List.take_add_one, List.getElem?_eq_getElem h, List.flatten_append]; simp [Option.toList]
theorem flat_le {R : List (List Pc)} (k : Nat) : (R.take k).flatten.length ≤ R.flatten.length := by
  conv => rhs; rw [← List.take_append_drop k R, List.flatten_append, List.length_append]
  omega
set_option maxHeartbeats 8000000 in
theorem concat_any (R : List (List Pc)) (b c : Nat) (hl : R.length ≤ 10) (hpos : 0 < R.flatten.length) (hlen : R.flatten.length ≤ 1000) (w : World) (hrow : RRow w b R) :
    Calls Tryz.prog 82 #[.slice (some ⟨b, 0, none⟩) R.length c] w (PcPost w R.flatten) := by
  have HR := Lib.hid hrow
  have hfl := fun k => flat_le (R := R) k
  clear hrow
  go_enter Tryz.func82, Tryz.ntmps82
  go_wp2
  go_loopw [3, 11] (CatN w R) (fun _ i _ => 20 - (intOf i).toNat)
  case atStart => exact ⟨0, Nat.zero_le _, rfl, rfl, rfl⟩
  case round =>
    obtain ⟨k, hk, rfl, rfl, rfl⟩ := hrel
    by_cases hlt : k < R.length
    · have hltz : (k : Int) < (R.length : Int) := by omega
      obtain ⟨v, hv, hcase⟩ := HR.out.2 k hlt
      have HF := Lib.hid (flat_snoc hlt)
      have hle := hfl k
      have hle2 := hfl (k + 1)
      rw [HF.out, List.length_append] at hle2
      have hlenv : ∃ a cc, v = .slice a (R.getD k []).length cc := by
        rcases hcase with ⟨h1, rfl⟩ | ⟨g, o, cc, _, rfl, _⟩
        · exact ⟨none, 0, by rw [h1]; rfl⟩
        · exact ⟨_, _, rfl⟩
      obtain ⟨a, cc, rfl⟩ := hlenv
      have hsum : ((R.take k).flatten.length : Int) + ((R.getD k []).length : Int) ≤ 1000 := by omega
      have hn0 : ¬ ((R.take k).flatten.length : Int) + ((R.getD k []).length : Int) < 0 := by omega
      clear hcase
      generalize R.getD k [] = r at *
      generalize (R.take k).flatten = L at *
      go_wp2
      go_roundw
      case rel => exact ⟨k + 1, by omega, by go_num, by rw [HF.out, List.length_append]; go_num, rfl⟩
      case measure => simp [intOf]; omega
    · obtain rfl : k = R.length := by omega
      have hlast : ¬ ((R.length : Nat) : Int) < (R.length : Int) := by omega
      rw [List.take_length]
      obtain ⟨N, hN⟩ : ∃ N, R.flatten.length = N := ⟨_, rfl⟩
      rw [hN] at hpos hlen hfl ⊢
      have HN := Lib.hid hN
      clear hN
      go_wp2_with fail
      refine (pgrow_any N hpos (by omega) _).mono ?_; rintro e w2 ⟨g0, c0, rfl, ho, hb⟩
      have HS2 : Hid (CatS wr b R [] (.slice (some ⟨g0, 0, none⟩) 0 c0) w2) := ⟨hb, ho, ⟨_, _, rfl, Nat.zero_le _⟩, HR.out.later hb⟩
      clear ho hb
      have hrowsQ := HR
      generalize wr = wQ at *
      go_wp2
      go_loopw [6, 27] (CatL wQ b R) (fun _ i _ => 20 - (intOf i).toNat)
      case atStart => exact ⟨0, Nat.zero_le _, rfl, HS2.out⟩
      case round =>
        obtain ⟨k, hk, rfl, hs⟩ := hrel
        have HS := Lib.hid hs
        clear hs
        by_cases hlt : k < R.length
        · have hltz : (k : Int) < (R.length : Int) := by omega
          obtain ⟨v, hv, hcase⟩ := HS.out.rows.2 k hlt
          have HF := Lib.hid (flat_snoc hlt)
          have hle2 := hfl (k + 1)
          rw [HF.out, List.length_append] at hle2
          have HLE := Lib.hid hle2
          clear hle2
          obtain ⟨g, cc, hvv, hcc⟩ := HS.out.some
          subst hvv
          have HCC := Lib.hid hcc
          clear hcc
          generalize (R.take k).flatten = L at *
          generalize R.getD k [] = r at *
          have hlow := HS.out.bel.size
          rcases hcase with ⟨rfl, rfl⟩ | ⟨g2, o2, cc2, hrl, rfl, hrow2⟩
          · have hE : (R.take (k + 1)).flatten = L := by rw [HF.out, List.append_nil]
            have HE := Lib.hid hE
            clear hE
            go_wp2_with (at_builtin; refine wpList_append_pnone rfl _ _ rfl g L.length cc rfl rfl HCC.out ?_)
            go_roundw
            case rel => exact ⟨k + 1, by omega, by go_num, by rw [HE.out]; exact HS.out⟩
            case measure => simp [intOf]; omega
          · have HRL := Lib.hid hrl
            have HR2 := Lib.hid hrow2
            have HLL : Hid (L.length + r.length < 1073741824) := by have := HLE.out; unfold Hid; omega
            clear hrl hrow2
            go_wp2_with (at_builtin; refine wpList_append_prow rfl _ _ rfl _ _ L rfl HS.out.own g2 o2 cc2 r rfl HR2.out HRL.out HLL.out hlow ?_; intro v' w5 h1 h2; have HO5 := Lib.hid h1; have HB5 := Lib.hid ((Below.refl _ _).grown h2 hlow (fun k hk => (World.ownsRow.lt HS.out.own k hk).1)); clear h1 h2)
            have hlen5 : 0 < (L ++ r).length := by rw [List.length_append]; have := HRL.out; omega
            obtain ⟨g5, c5, cur5, hv5, -, -, hc5, -⟩ := HO5.out.blk hlen5
            have HS5 : Hid (CatS wQ b R ((R.take (k + 1)).flatten) v' w5) :=
              ⟨HS.out.bel.trans HB5.out, by rw [HF.out]; exact HO5.out, ⟨g5, c5, by rw [HF.out]; exact hv5, by rw [HF.out]; exact hc5⟩, hrowsQ.out.later (HS.out.bel.trans HB5.out)⟩
            go_roundw
            case rel => exact ⟨k + 1, by omega, by go_num, HS5.out⟩
            case measure => simp [intOf]; omega
        · obtain rfl : k = R.length := by omega
          have hlast2 : ¬ ((R.length : Nat) : Int) < (R.length : Int) := by omega
          obtain ⟨g, cc, hvv, -⟩ := HS.out.some
          have HO := HS.out.own
          rw [List.take_length] at hvv HO
          rw [HN.out] at hvv
          subst hvv
          have HOO := Lib.hid HO
          clear HO
          go_wp2
          go_ret
          exact ⟨_, rfl, HOO.out, HS.out.bel⟩
theorem pc1_row {w : World} {b : Nat} {p : Pc} (h : Blk w b (pcC p) 92) : PRow w (some ⟨b, 0, none⟩) [p] := fun i hi => by
  obtain rfl : i = 0 := by simpa using hi
  exact ⟨b, 0, rfl, h.lt, fun j hj => by rw [h.cell]; simp⟩
/-- A row of pieces, or none. -/
def RowOr (w : World) (v : Value) (l : List Pc) : Prop := (l = [] ∧ v = .slice none 0 0) ∨ ∃ g o c, 0 < l.length ∧ v = .slice (some ⟨g, o, none⟩) l.length c ∧ PRow w (some ⟨g, o, none⟩) l
theorem RowOr.later {w w' : World} {v : Value} {l : List Pc} (h : RowOr w v l) (hb : Below w.heap.size w w') : RowOr w' v l := by
  rcases h with h | ⟨g, o, c, h1, h2, h3⟩
  · exact .inl h
  · exact .inr ⟨g, o, c, h1, h2, h3.later hb⟩
theorem OwnP.rowOr {w : World} {base : Nat} {v : Value} {l : List Pc} (h : OwnP w base v l) (hl : 0 < l.length) : RowOr w v l := by
  obtain ⟨g, cap, cur, hv, -⟩ := h.blk hl
  obtain ⟨a, c, hv2, hr⟩ := h.row
  rw [hv] at hv2; cases hv2
  exact .inr ⟨g, 0, cap, hl, hv, hr⟩
set_option maxHeartbeats 8000000 in
theorem bracketed_any (l : List Pc) (hl : l.length ≤ 900) (v : Value) (w : World) (hrow : RowOr w v l) :
    Calls Tryz.prog 48 #[v] w (PcPost w (brk l)) := by
  have hvs : ∃ a c, v = .slice a l.length c := by
    rcases hrow with ⟨rfl, rfl⟩ | ⟨g, o, c, _, rfl, _⟩
    · exact ⟨none, 0, rfl⟩
    · exact ⟨_, _, rfl⟩
  have HROW := Lib.hid hrow
  obtain ⟨a, c, rfl⟩ := hvs
  clear hrow
  have HG := Lib.hid (fun s w' => sign_any s w')
  simp only [pcC] at HG
  go_enter Tryz.func48, Tryz.ntmps48
  go_wp2_with fail
  refine (HG.out [40] _).mono ?_; rintro e w2 ⟨rfl, hb⟩
  have HB2 := Lib.hid hb
  clear hb
  have HX2 : Hid (Blk (w2.alloc (.cells (pcC (.sg [40])) 92)) w2.heap.size (pcC (.sg [40])) 92) := Blk.new w2 _ _
  have HB3 := Lib.hid (HB2.out.trans (((Below.refl _ _).alloc (Nat.le_refl _) (.cells (pcC (.sg [40])) 92)).mono HB2.out.size))
  simp only [pcC] at HX2 HB3
  go_wp2_with fail
  generalize w2.alloc (.cells #[.string (bs [40]), .int .i64 0, .int .i64 0] 92) = w3 at *
  generalize w2.heap.size = b2 at *
  refine (HG.out [41] _).mono ?_; rintro e w4 ⟨rfl, hb⟩
  have HX4 := Lib.hid (HX2.out.later hb)
  have HB4 := Lib.hid (HB3.out.trans (hb.mono HB3.out.size))
  clear hb HX2 HB3
  have HA6 : Hid (Below w4.heap.size w4 ((w4.alloc (.cells #[.string (bs [41]), .int .i64 0, .int .i64 0] 92)).alloc (.cells #[.slice (some ⟨b2, 0, none⟩) 1 1, .slice a l.length c, .slice (some ⟨w4.heap.size, 0, none⟩) 1 1] 94))) := ((Below.refl w4.heap.size w4).alloc (Nat.le_refl _) _).alloc (by simp) _
  have HX6 : Hid (Blk ((w4.alloc (.cells #[.string (bs [41]), .int .i64 0, .int .i64 0] 92)).alloc (.cells #[.slice (some ⟨b2, 0, none⟩) 1 1, .slice a l.length c, .slice (some ⟨w4.heap.size, 0, none⟩) 1 1] 94)) w4.heap.size (pcC (.sg [41])) 92) := (Blk.new w4 _ _).alloc _
  have hK6 : Blk ((w4.alloc (.cells #[.string (bs [41]), .int .i64 0, .int .i64 0] 92)).alloc (.cells #[.slice (some ⟨b2, 0, none⟩) 1 1, .slice a l.length c, .slice (some ⟨w4.heap.size, 0, none⟩) 1 1] 94)) (w4.heap.size + 1) #[.slice (some ⟨b2, 0, none⟩) 1 1, .slice a l.length c, .slice (some ⟨w4.heap.size, 0, none⟩) 1 1] 94 := Blk.new' (by simp) _ _
  have HR4 := Lib.hid (HROW.out.later HB4.out)
  have HRR : Hid (RRow ((w4.alloc (.cells #[.string (bs [41]), .int .i64 0, .int .i64 0] 92)).alloc (.cells #[.slice (some ⟨b2, 0, none⟩) 1 1, .slice a l.length c, .slice (some ⟨w4.heap.size, 0, none⟩) 1 1] 94)) (w4.heap.size + 1) [[.sg [40]], l, [.sg [41]]]) := by
    refine ⟨hK6.lt, fun k hk => ?_⟩
    have hk3 : k < 3 := hk
    obtain rfl | rfl | rfl : k = 0 ∨ k = 1 ∨ k = 2 := by omega
    · exact ⟨_, (hK6.cell 0).trans rfl, .inr ⟨b2, 0, 1, (by show 0 < 1; omega), rfl, pc1_row (p := .sg [40]) (HX4.out.later HA6.out)⟩⟩
    · exact ⟨_, (hK6.cell 1).trans rfl, HR4.out.later HA6.out⟩
    · exact ⟨_, (hK6.cell 2).trans rfl, .inr ⟨w4.heap.size, 0, 1, (by show 0 < 1; omega), rfl, pc1_row (p := .sg [41]) HX6.out⟩⟩
  have HB6 := Lib.hid (HB4.out.trans (HA6.out.mono HB4.out.size))
  have hfl : [[Pc.sg [40]], l, [Pc.sg [41]]].flatten = brk l := by simp [brk]
  have CC : Hid (Calls Tryz.prog 82 #[.slice (some ⟨w4.heap.size + 1, 0, none⟩) 3 3] ((w4.alloc (.cells #[.string (bs [41]), .int .i64 0, .int .i64 0] 92)).alloc (.cells #[.slice (some ⟨b2, 0, none⟩) 1 1, .slice a l.length c, .slice (some ⟨w4.heap.size, 0, none⟩) 1 1] 94)) (PcPost ((w4.alloc (.cells #[.string (bs [41]), .int .i64 0, .int .i64 0] 92)).alloc (.cells #[.slice (some ⟨b2, 0, none⟩) 1 1, .slice a l.length c, .slice (some ⟨w4.heap.size, 0, none⟩) 1 1] 94)) [[Pc.sg [40]], l, [Pc.sg [41]]].flatten)) := concat_any [[.sg [40]], l, [.sg [41]]] (w4.heap.size + 1) 3 (by show 3 ≤ 10; omega) (by rw [hfl]; simp [brk]) (by rw [hfl]; simp [brk]; omega) _ HRR.out
  rw [hfl] at CC
  clear hK6 hfl HRR HX6 HA6 HR4 HX4 HB4 HROW
  go_wp2_with fail
  refine CC.out.mono ?_; rintro e w7 ⟨v, rfl, ho, hb⟩
  obtain ⟨a7, c7, rfl, -⟩ := ho.row
  have HO7 := Lib.hid (ho.lower HB6.out.size)
  have HB7 := Lib.hid (HB6.out.trans (hb.mono HB6.out.size))
  clear ho hb CC HB6
  generalize hbl : brk l = L at *
  clear hbl
  go_wp2
  go_ret
  exact ⟨_, rfl, HO7.out, HB7.out⟩
end Go.Proofs.YtcgjmnhmhiddkaaGreatDoor
/- Rows of texts in memory, that a call owns; where what is appended to stands. -/
namespace Go.Proofs.YtcgjmnhmhiddkaaGreatDoor
open Go Go.RowKit
set_option linter.unusedVariables false

def strsV (l : List (List UInt8)) : List Value := l.map fun c : List UInt8 => Value.string (bs c)
theorem strsV_snoc (l : List (List UInt8)) (c : List UInt8) : strsV (l ++ [c]) = strsV l ++ [.string (bs c)] := by simp [strsV]
theorem strsV_length (l : List (List UInt8)) : (strsV l).length = l.length := by simp [strsV]
/-- A row of numbers that is read. -/
def SRow (w : World) (a : Option Addr) (l : List (List UInt8)) : Prop :=
  ∀ i, i < l.length → ∃ b off, a = some ⟨b, off, none⟩ ∧ b < w.heap.size ∧ w.cell? ⟨b, off + i, none⟩ = some (.string (bs (l.getD i [])))
theorem SRow.later {w w' : World} {a : Option Addr} {l : List (List UInt8)} (h : SRow w a l) (hb : Below w.heap.size w w') : SRow w' a l := fun i hi => by
  obtain ⟨b, off, ha, hlt, hc⟩ := h i hi
  exact ⟨b, off, ha, Nat.lt_of_lt_of_le hlt hb.size, (hb.cell (p := ⟨b, off + i, none⟩) hlt).trans hc⟩
def OwnS (w : World) (base : Nat) (v : Value) (l : List (List UInt8)) : Prop := w.ownsRow base 9 1 v l.length (strsV l)
theorem OwnS.nil (w : World) (base : Nat) : OwnS w base (.slice none 0 0) [] := ⟨rfl, .inl ⟨rfl, rfl⟩⟩
theorem OwnS.later {w w' : World} {base : Nat} {v : Value} {l : List (List UInt8)} (h : OwnS w base v l) (hb : Below w.heap.size w w') : OwnS w' base v l := ownsRow_later h hb
theorem OwnS.row {w : World} {base : Nat} {v : Value} {l : List (List UInt8)} (h : OwnS w base v l) : ∃ a cap, v = .slice a l.length cap ∧ SRow w a l := by
  obtain ⟨_, ⟨hv, hn⟩ | ⟨g, cap, cur, hv, hb, hg, hc, hm, hs, ht⟩⟩ := h
  · have : l = [] := List.length_eq_zero_iff.1 hn
    subst this
    exact ⟨none, 0, hv, fun i hi => by simp at hi⟩
  · refine ⟨_, cap, hv, fun i hi => ⟨g, 0, rfl, Blk.lt (w := w) (b := g) (vs := cur) (t := 9) hg, ?_⟩⟩
    rw [Blk.cell (w := w) (b := g) (vs := cur) (t := 9) hg]
    have : (strsV l)[i]? = some (.string (bs (l.getD i []))) := by unfold strsV; simp [hi]
    rw [← this, ← ht, List.getElem?_take, if_pos (by omega)]
    simp
/-- Without its last number it stands where it did. -/
theorem OwnS.drop {w : World} {base : Nat} {v : Value} {l : List (List UInt8)} (h : OwnS w base v l) (hl : 0 < l.length) : ∃ g cap, v = .slice (some ⟨g, 0, none⟩) l.length cap ∧ l.length ≤ cap ∧ g < w.heap.size ∧ OwnS w base (.slice (some ⟨g, 0, none⟩) (l.length - 1) cap) l.dropLast := by
  obtain ⟨_, ⟨hv, hn⟩ | ⟨g, cap, cur, hv, hb, hg, hc, hm, hs, ht⟩⟩ := h
  · omega
  · refine ⟨g, cap, hv, hc, Blk.lt (w := w) (b := g) (vs := cur) (t := 9) hg, by simp [strsV], .inr ⟨g, cap, cur, by simp, hb, hg, by simp; omega, hm, hs, ?_⟩⟩
    rw [List.length_dropLast, Nat.mul_one]
    have e : cur.toList.take (l.length - 1) = (cur.toList.take (l.length * 1)).take (l.length - 1) := by rw [List.take_take]; congr 1; omega
    rw [e, ht]; unfold strsV
    rw [← List.map_take, ← List.dropLast_eq_take]
theorem infoS : (Tryz.prog.info? 9).map (fun i => (i.zero, i.size, i.bytes)) = some (some (.string ⟨#[]⟩), 1, 16) := by kernel_rfl
set_option maxRecDepth 100000 in
/-- An append of a number to a row of its own: other blocks stay, and it stands where it did, or in new memory. -/
theorem wp_append_str {w : World} {o : Oper} {a : Act} {K : Act → World → Prop} {Q : Exit → Act → World → Prop} (s x : Operand)
    (ho : o.op = .call { callee := .builtin .append, args := #[s, x], argTypes := #[163, 163] })
    (base : Nat) (v : Value) (l : List (List UInt8)) (hs : a.eval s = v) (hown : OwnS w base v l)
    (b : Nat) (c : List UInt8) (hx : a.eval x = .slice (some ⟨b, 0, none⟩) 1 1) (hnew : Blk w b #[.string (bs c)] 9) (hlen : l.length < 1073741824) (hbase : base ≤ w.heap.size)
    (h : ∀ v' w', OwnS w' base v' (l ++ [c]) → w.grownBy w' v.ownBlock → (v'.ownBlock = v.ownBlock ∨ ∃ g', v'.ownBlock = some g' ∧ w.heap.size ≤ g') → K (a.put o.dst v') w') : o.wp Tryz.prog a w K Q := by
  obtain ⟨ib, hib, hz0, hz1, hz2⟩ := info_parts infoS
  have hnews : ∀ (j : Nat) (u : Value), [Value.string (bs c)][j]? = some u → w.cell? ((⟨b, 0, none⟩ : Addr).add j) = some u := by
    intro j u hu
    cases j with
    | zero => simp at hu; subst hu; exact hnew.cell 0
    | succ j => simp at hu
  have hone : ∀ u ∈ [Value.string (bs c)], u.oneCell' = true := by simp [Value.oneCell']
  obtain ⟨v', w', hr, h2, h3, _⟩ := run_append_own (P := Tryz.prog) w base 163 o.type 9 ib _ 1 16 Tryz.underlying163 hib hz0 hz1 hz2 rfl (by decide) v l.length (strsV l) hown ⟨b, 0, none⟩ 1 1 [.string (bs c)] rfl hnews hone (by unfold maxLen; omega) (by omega) hbase
  have h2' : OwnS w' base v' (l ++ [c]) := by unfold OwnS; rw [List.length_append, strsV_snoc]; exact h2
  have place : v'.ownBlock = v.ownBlock ∨ ∃ g', v'.ownBlock = some g' ∧ w.heap.size ≤ g' := by
    rcases hown.2 with ⟨rfl, hn⟩ | ⟨g', cap, cur, rfl, hbg, hgg, hnc, hcm, hcs, htake⟩
    · have hl0 : l = [] := List.length_eq_zero_iff.1 hn
      subst hl0
      obtain ⟨v2, w2, hr2, h4, _, _⟩ := run_append_own (P := Tryz.prog) w w.heap.size 163 o.type 9 ib _ 1 16 Tryz.underlying163 hib hz0 hz1 hz2 rfl (by decide) (.slice none 0 0) 0 [] ⟨rfl, .inl ⟨rfl, rfl⟩⟩ ⟨b, 0, none⟩ 1 1 [.string (bs c)] rfl hnews hone (by unfold maxLen; omega) (by omega) (Nat.le_refl _)
      rw [hr] at hr2
      simp only [Result.ok.injEq] at hr2
      obtain ⟨rfl, rfl⟩ := hr2
      rcases h4.2 with ⟨_, h5⟩ | ⟨g2, cap2, cur2, hv, hb2, _⟩
      · omega
      · exact .inr ⟨g2, by rw [hv]; rfl, hb2⟩
    · by_cases hroom : l.length + 1 ≤ cap
      · have hr2 := run_append_room (P := Tryz.prog) w 163 o.type 9 ib Tryz.underlying163 hib g' l.length cap cur hgg ⟨b, 0, none⟩ 1 1 [.string (bs c)] (by rw [hz1]; rfl) hnews hone hroom (by rw [hz1, hcs]; simp; omega)
        rw [hr] at hr2
        simp only [Result.ok.injEq] at hr2
        exact .inl (by rw [hr2.1]; rfl)
      · have holds := World.ownsRow.cells (w := w) (base := base) (e := 9) (size := 1) (v := .slice (some ⟨g', 0, none⟩) l.length cap) (n := l.length) (xs := strsV l) hown (g := g') rfl
        have hr2 := run_append_grow (P := Tryz.prog) w 163 o.type 9 ib _ Tryz.underlying163 hib hz0 ⟨g', 0, none⟩ l.length cap (strsV l) (by rw [hz1, strsV_length, Nat.mul_one]) holds ⟨b, 0, none⟩ 1 1 [.string (bs c)] (by rw [hz1]; rfl) hnews (by omega) (by omega) (by rw [hz2]; exact growslice_fits (by omega) (by omega))
        rw [hr] at hr2
        simp only [Result.ok.injEq] at hr2
        exact .inr ⟨w.heap.size, by rw [hr2.1]; rfl, Nat.le_refl _⟩
  unfold Oper.wp execOp
  simp only [ho, resolve, invoke, builtin, Sem.run_bind, Sem.run_pure, Result.andThen_ok, List.map_toArray, List.map_cons, List.map_nil, hs, hx, hr]
  exact h v' w' h2' h3 place
theorem wpList_append_str {w : World} {ops : Array Oper} {rest : List Oper} {o : Oper} {a : Act} {Q : Exit → Act → World → Prop} (hgd : o.guard = none) (s x : Operand)
    (ho : o.op = .call { callee := .builtin .append, args := #[s, x], argTypes := #[163, 163] })
    (base : Nat) (v : Value) (l : List (List UInt8)) (hs : a.eval s = v) (hown : OwnS w base v l)
    (b : Nat) (c : List UInt8) (hx : a.eval x = .slice (some ⟨b, 0, none⟩) 1 1) (hnew : Blk w b #[.string (bs c)] 9) (hlen : l.length < 1073741824) (hbase : base ≤ w.heap.size)
    (h : ∀ v' w', OwnS w' base v' (l ++ [c]) → w.grownBy w' v.ownBlock → (v'.ownBlock = v.ownBlock ∨ ∃ g', v'.ownBlock = some g' ∧ w.heap.size ≤ g') → wpList Tryz.prog ops Q rest (a.put o.dst v') w') : wpList Tryz.prog ops Q (o :: rest) a w :=
  wpList_plain hgd fun K hK => wp_append_str s x ho base v l hs hown b c hx hnew hlen hbase fun v' w' h1 h2 h3 => hK _ _ (h v' w' h1 h2 h3)
end Go.Proofs.YtcgjmnhmhiddkaaGreatDoor
