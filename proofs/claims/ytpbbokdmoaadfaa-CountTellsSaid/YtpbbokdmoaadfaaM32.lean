/- The parser's fault: walked. -/
import Derived.Test.YtpbbokdmoaadfaaM31
import Derived.Test.YtpbbokdmoaadfaaM18
import Derived.Test.YtpbbokdmoaadfaaM07
namespace Go.Proofs.Ytpbbokdmoaadfaa
open Go Go.RowKit
set_option linter.unusedVariables false
set_option linter.unusedSimpArgs false
theorem Blk.typed2 {w : World} {b c : Nat} {vs us : Array Value} {t u : TypeId} (h : Blk w b vs t) (k : Blk w c us u) (hne : t ≠ u) : b ≠ c := by
  intro e; subst e
  unfold Blk at h k
  rw [h] at k
  have := Option.some.inj k
  injection this with _ h2
  exact hne h2
theorem own_typed {w : World} {base size n : Nat} {e t : TypeId} {v : Value} {xs : List Value} (h : w.ownsRow base e size v n xs) {g : Nat} {vs : Array Value} (hg : Blk w g vs t) (hne : e ≠ t) : ∀ k, v.ownBlock = some k -> k ≠ g := by
  intro k hk
  obtain ⟨h0, ⟨hv, hn⟩ | ⟨g2, cap, cur, hv, hb, hg2, hr⟩⟩ := h
  · rw [hv] at hk; cases hk
  · rw [hv] at hk
    have : g2 = k := by simpa [Value.ownBlock] using hk
    subst this
    exact Blk.typed2 (w := w) (b := g2) (vs := cur) (t := e) hg2 hg hne
section
variable {w : World} {B pb : Nat} {A : Option Addr} {cp : Nat} {l : List Tk} {s : PS} {ov nv av : Value}
end
section
variable {a w w' : World} {B pb : Nat} {A : Option Addr} {cp : Nat} {l : List Tk} {s : PS} {ov nv av : Value}
end
theorem intsV_app (l m : List Int) : intsV (l ++ m) = intsV l ++ intsV m := by simp [intsV]
theorem IRow.news {w : World} {b o : Nat} {r : List Int} (h : IRow w (some ⟨b, o, none⟩) r) : ∀ (j : Nat) (u : Value), (intsV r)[j]? = some u -> w.cell? ((⟨b, o, none⟩ : Addr).add j) = some u := fun j u hu => by
  have hj : j < r.length := by
    have := (List.getElem?_eq_some_iff.1 hu).1
    rwa [intsV_length] at this
  obtain ⟨b', o', e1, -, e2⟩ := h j hj
  cases e1
  have e3 : (intsV r)[j]? = some (.int .i64 (r.getD j 0)) := by unfold intsV; simp [hj]
  rw [e3] at hu
  cases hu
  have hadd : (⟨b, o, none⟩ : Addr).add j = ⟨b, o + j, none⟩ := by unfold Addr.add; split <;> simp_all
  rw [hadd]; exact e2
theorem intsV_ones (r : List Int) : ∀ u ∈ intsV r, u.oneCell' = true := fun u hu => by
  obtain ⟨x, -, rfl⟩ := List.mem_map.1 hu
  rfl
structure IR (base : Nat) (L : List Int) (w w' : World) : Prop where
  out : base <= w.heap.size -> (Below base w w' /\ (∀ v n, OwnI w base v (L.take n) -> OwnI w' base v (L.take n)) /\ (∀ g vs, Blk w g vs 3 -> vs.size <= 1 -> Blk w' g vs 3) /\ (∀ g vs t, t ≠ 3 -> Blk w g vs t -> Blk w' g vs t))
theorem IR.of {base : Nat} {L : List Int} (w w' : World) (hb : Below w.heap.size w w') : IR base L w w' := ⟨fun h => ⟨hb.mono h, fun v n k => k.later hb, fun g vs k _ => k.later hb, fun g vs t _ k => k.later hb⟩⟩
theorem take_mix {L : List Int} {cur : List Value} {p q n : Nat} {r : List Int} (hpq : p + q <= L.length) (sz : p + q <= cur.length) (hu : cur.take (L.take n).length = intsV (L.take n)) (hr : (L.drop p).take q = r) :
    (cur.take p ++ intsV r ++ cur.drop (p + q)).take (L.take n).length = intsV (L.take n) := by
  apply List.ext_getElem?
  intro j
  have hj : (L.take n).length = min n L.length := List.length_take ..
  have lr : (intsV r).length = q := by rw [intsV_length, <- hr, List.length_take, List.length_drop]; omega
  have lp : (cur.take p).length = p := by rw [List.length_take]; omega
  have hu2 : ∀ i, i < (L.take n).length -> cur[i]? = (intsV (L.take n))[i]? := fun i hi => by
    rw [<- hu, List.getElem?_take, if_pos hi]
  rw [List.getElem?_take]
  by_cases h : j < (L.take n).length
  · rw [if_pos h]
    rcases Nat.lt_or_ge j p with h1 | h1
    · rw [List.append_assoc, List.getElem?_append_left (by omega), List.getElem?_take, if_pos h1]; exact hu2 j h
    · rcases Nat.lt_or_ge j (p + q) with h2 | h2
      · rw [List.append_assoc, List.getElem?_append_right (by omega), lp, List.getElem?_append_left (by omega), <- hr]
        unfold intsV
        rw [List.getElem?_map, List.getElem?_map, List.getElem?_take, if_pos (by omega), List.getElem?_drop, List.getElem?_take, if_pos (by omega), show p + (j - p) = j by omega]
      · rw [List.getElem?_append_right (by rw [List.length_append, lp, lr]; exact h2), List.length_append, lp, lr, List.getElem?_drop, show p + q + (j - (p + q)) = j by omega]; exact hu2 j h
  · rw [if_neg h, List.getElem?_eq_none (by rw [intsV_length]; omega)]
set_option maxRecDepth 100000 in
theorem wp_append_ints {w : World} {o : Oper} {a : Act} {K : Act -> World -> Prop} {Q : Exit -> Act -> World -> Prop} (s x : Operand)
    (ho : o.op = .call { callee := .builtin .append, args := #[s, x], argTypes := #[54, 54] })
    (base : Nat) (v : Value) (L : List Int) (p q : Nat) (hpq : p + q <= L.length) (hq : 0 < q) (h2q : 2 <= p + q \/ ∃ g, v = .slice (some ⟨g, 0, none⟩) 0 0) (hs : a.eval s = v) (hown : OwnI w base v (L.take p))
    (b oo c : Nat) (hx : a.eval x = .slice (some ⟨b, oo, none⟩) q c) (hr0 : IRow w (some ⟨b, oo, none⟩) ((L.drop p).take q)) (hlen : L.length < 536870912) (hbase : base <= w.heap.size)
    (h : ∀ v' w', OwnI w' base v' (L.take (p + q)) -> IR base L w w' -> K (a.put o.dst v') w') : o.wp Try.prog a w K Q := by
  obtain ⟨ib, hib, hz0, hz1, hz2⟩ := info_parts infoI
  obtain ⟨l, hl⟩ : ∃ l, L.take p = l := ⟨_, rfl⟩
  obtain ⟨r, hr⟩ : ∃ r, (L.drop p).take q = r := ⟨_, rfl⟩
  have hlr : L.take (p + q) = l ++ r := by rw [<- hl, <- hr, List.take_add]
  have ll : l.length = p := by rw [<- hl, List.length_take]; omega
  have lr : r.length = q := by rw [<- hr, List.length_take, List.length_drop]; omega
  rw [hl] at hown
  rw [hr] at hr0
  rw [hlr] at h
  have hown0 : w.ownsRow base 3 1 v l.length (intsV l) := hown
  obtain ⟨v', w', hrun, h2, h3, _⟩ := run_append_own (P := Try.prog) w base 54 o.type 3 ib _ 1 8 Try.underlying54 hib hz0 hz1 hz2 rfl (by decide) v l.length (intsV l) hown0 ⟨b, oo, none⟩ r.length c (intsV r) (by rw [intsV_length, Nat.mul_one]) hr0.news (intsV_ones r) (by unfold maxLen; omega) (by omega) hbase
  have h2' : OwnI w' base v' (l ++ r) := by unfold OwnI; rw [List.length_append, intsV_app]; exact h2
  have hbel : Below base w w' := (Below.refl base w).grown h3 hbase (fun k hk => (World.ownsRow.lt hown0 k hk).1)
  have hoth : ∀ g vs t, t ≠ 3 -> Blk w g vs t -> Blk w' g vs t := fun g vs t ht k => (h3.block g k.lt (fun e => own_typed hown0 k (Ne.symm ht) g e.symm rfl)).trans k
  have keep : (∀ u n, OwnI w base u (L.take n) -> OwnI w' base u (L.take n)) /\ (∀ g vs, Blk w g vs 3 -> vs.size <= 1 -> Blk w' g vs 3) := by
    rcases hown.2 with ⟨hv0, hn⟩ | ⟨g', cap, cur, hv0, hbg, hgg, hnc, hcm, hcs, htake⟩
    · refine ⟨fun u n hu => World.ownsRow.kept hu h3 (by rw [hv0]; cases hh : u.ownBlock <;> simp [Value.ownBlock]), fun g vs hk _ => (h3.block g hk.lt (by rw [hv0]; simp [Value.ownBlock])).trans hk⟩
    · by_cases hroom : l.length + r.length <= cap
      · have hr2 := run_append_room (P := Try.prog) w 54 o.type 3 ib Try.underlying54 hib g' l.length cap cur hgg ⟨b, oo, none⟩ r.length c (intsV r) (by rw [hz1, intsV_length, Nat.mul_one]) hr0.news (intsV_ones r) hroom (by rw [hz1, hcs, Nat.mul_one, intsV_length]; omega)
        rw [<- hv0, hrun] at hr2
        simp only [Result.ok.injEq] at hr2
        have hv := hr2.1
        obtain ⟨q0, ⟨q1, _⟩ | ⟨g2, cap2, cur2, q1, q2, q3, q4, q5, q6, q7⟩⟩ := h2'
        · rw [hv] at q1; cases q1
        · rw [hv] at q1
          simp only [Value.slice.injEq, Option.some.injEq, Addr.mk.injEq, and_true] at q1
          obtain ⟨rfl, q8, rfl⟩ := q1
          refine ⟨fun u n hu => ?u1, fun g vs hk hsz => ?u3⟩
          case u1 =>
            by_cases hgu : u.ownBlock = some g'
            · obtain ⟨u0, ⟨u1, _⟩ | ⟨g3, cap3, cur3, u1, u2, u3, u4, u5, u6, u7⟩⟩ := hu
              · rw [u1] at hgu; cases hgu
              · rw [u1] at hgu
                have e3 : g3 = g' := by simpa [Value.ownBlock] using hgu
                subst e3
                have e4 := u3.symm.trans hgg
                simp only [Option.some.injEq, Obj.cells.injEq, and_true] at e4
                have e5 : cap3 = cap := by rw [e4] at u6; omega
                refine ⟨u0, .inr ⟨g3, cap, cur2, by rw [u1, e5], hbg, q3, by omega, hcm, q6, ?_⟩⟩
                rw [Nat.mul_one] at u7 q7 htake ⊢
                have hcur : cur3 = cur := e4
                subst hcur
                have hc2 : cur2 = (cur3.toList.take (l.length * 1) ++ intsV r ++ cur3.toList.drop (l.length * 1 + (intsV r).length)).toArray := by
                  have e := setRow_heap w g3 cur3 (cur3.toList.take (l.length * 1) ++ intsV r ++ cur3.toList.drop (l.length * 1 + (intsV r).length)).toArray 3 (0, 0) hgg
                  have e6 := hr2.2
                  rw [hz1] at e6
                  rw [<- e6] at e
                  have e7 := q3.symm.trans e
                  simpa using e7
                rw [Nat.mul_one, intsV_length, ll, lr] at hc2
                have sz : p + q <= cur3.toList.length := by simp; omega
                rw [hc2, List.toList_toArray]
                exact take_mix hpq sz u7 hr
            · exact World.ownsRow.kept hu h3 (by right; rw [hv0]; exact hgu)
          case u3 =>
            by_cases hgu : g = g'
            · subst hgu
              have e4 := (show w.heap[g]? = _ from hk).symm.trans hgg
              simp only [Option.some.injEq, Obj.cells.injEq, and_true] at e4
              rw [e4, hcs] at hsz
              rcases h2q with h2q | ⟨g9, hv9⟩
              · omega
              · rw [hv0] at hv9
                injection hv9 with _ _ h9
                omega
            · exact (h3.block g hk.lt (fun e => hgu (by rw [hv0] at e; simpa [Value.ownBlock] using e))).trans hk
      · have holds := World.ownsRow.cells (w := w) (base := base) (e := 3) (size := 1) (v := v) (n := l.length) (xs := intsV l) hown0 (g := g') (by rw [hv0]; rfl)
        have hr2 := run_append_grow (P := Try.prog) w 54 o.type 3 ib _ Try.underlying54 hib hz0 ⟨g', 0, none⟩ l.length cap (intsV l) (by rw [hz1, intsV_length, Nat.mul_one]) holds ⟨b, oo, none⟩ r.length c (intsV r) (by rw [hz1, intsV_length, Nat.mul_one]) hr0.news (by omega) (by omega) (by rw [hz2]; exact growslice_fits (by omega) (by omega))
        rw [<- hv0, hrun] at hr2
        simp only [Result.ok.injEq] at hr2
        have hb : Below w.heap.size w w' := by rw [hr2.2]; exact ((Below.refl _ w).drew).alloc (Nat.le_refl _) _
        exact ⟨fun u n hu => hu.later hb, fun g vs hk _ => hk.later hb⟩
  unfold Oper.wp execOp
  simp only [ho, resolve, invoke, builtin, Sem.run_bind, Sem.run_pure, Result.andThen_ok, List.map_toArray, List.map_cons, List.map_nil, hs, hx]
  rw [<- lr, hrun]
  exact h v' w' h2' ⟨fun _ => ⟨hbel, keep.1, keep.2, hoth⟩⟩
theorem OwnI.empty {w : World} {base b : Nat} (h : Blk w b #[] 3) (hb : base <= b) (L : List Int) : OwnI w base (.slice (some ⟨b, 0, none⟩) 0 0) (L.take 0) := by
  rw [List.take_zero]
  exact ⟨rfl, .inr ⟨b, 0, #[], rfl, hb, h, Nat.le_refl _, by unfold maxLen; omega, rfl, rfl⟩⟩
set_option maxRecDepth 100000
theorem IR.trans {base : Nat} {L : List Int} {w w1 w2 : World} (h : IR base L w w1) (k : IR base L w1 w2) : IR base L w w2 := ⟨fun hb => by
  obtain ⟨a1, a2, a3, a4⟩ := h.out hb
  obtain ⟨b1, b2, b3, b4⟩ := k.out (Nat.le_trans hb a1.size)
  exact ⟨a1.trans b1, fun v n x => b2 v n (a2 v n x), fun g vs x y => b3 g vs (a3 g vs x y) y, fun g vs t x y => b4 g vs t x (a4 g vs t x y)⟩⟩
theorem nest_any {l : List Nd} {c m ba oa : Nat} (hF : Form l) : ∀ i, i < l.length -> NesC (some ⟨ba, oa, none⟩) l c m i := by
  intro i
  induction i using Nat.strongRecOn with
  | ind i ih =>
    intro hi
    by_cases hk : (atN l i).kind = 4
    · have ha := cnt_kidA hF hi (by omega)
      have hb := cnt_kidB hF hi (.inl hk)
      exact nest_seq hF hi hk (ih _ ha (by omega)) (ih _ hb (by omega))
    · exact nest_leaf hi hk
def memI (l : List Nd) (i : Nat) : List Int := (memN l i).map fun j : Nat => (j : Int)
theorem memI_length {l : List Nd} {i : Nat} : (memI l i).length = (memN l i).length := by unfold memI; rw [List.length_map]
def MemP (B : Nat) (LL : List Int) (p q : Nat) (w0 : World) (e : Ending) (w : World) : Prop := ∃ v, e = .returned v /\ OwnI w B v (LL.take (p + q)) /\ IR B LL w0 w
def MemC (A : Option Addr) (l : List Nd) (c m : Nat) (i : Nat) : Prop := ∀ (rb : Nat) (u : Value) (W : Wd) (LL : List Int) (p : Nat) (v : Value) (w0 w : World), Rdb rb A l c u W m w0 -> Below w0.heap.size w0 w -> OwnI w w0.heap.size v (LL.take p) -> (p = 0 -> v = .slice none 0 0) -> p + (memN l i).length <= LL.length -> LL.length <= 100000 -> (LL.drop p).take (memN l i).length = memI l i ->
  Calls Try.prog 58 #[.pointer (some ⟨rb, 0, none⟩), v, .int .i64 (i : Int)] w (MemP w0.heap.size LL p (memN l i).length w)
theorem IRow.one {w : World} {g : Nat} {n : Int} (h : Blk w g #[.int .i64 n] 3) : IRow w (some ⟨g, 0, none⟩) [n] := fun i hi => by
  have hi : i < 1 := hi
  obtain rfl : i = 0 := by omega
  exact ⟨g, 0, rfl, h.lt, h.cell 0⟩
theorem wp_append_mem {w : World} {o : Oper} {a : Act} {K : Act -> World -> Prop} {Q : Exit -> Act -> World -> Prop} (s x : Operand)
    (ho : o.op = .call { callee := .builtin .append, args := #[s, x], argTypes := #[54, 54] })
    (base : Nat) (v : Value) (L : List Int) (p : Nat) (n : Int) (hp : p + 1 <= L.length) (h0 : p = 0 -> v = .slice none 0 0) (hs : a.eval s = v) (hown : OwnI w base v (L.take p))
    (b : Nat) (hx : a.eval x = .slice (some ⟨b, 0, none⟩) 1 1) (hnew : Blk w b #[.int .i64 n] 3) (hn : (L.drop p).take 1 = [n]) (hlen : L.length < 536870912) (hbase : base <= w.heap.size)
    (h : ∀ v' w', OwnI w' base v' (L.take (p + 1)) -> IR base L w w' -> K (a.put o.dst v') w') : o.wp Try.prog a w K Q := by
  by_cases hp0 : p = 0
  · have hv := h0 hp0
    subst hv
    subst hp0
    rw [List.take_zero] at hown
    refine wp_append_int s x ho w.heap.size (.slice none 0 0) [] hs (OwnI.nil _ _) b n hx hnew (by decide) (Nat.le_refl _) fun v' w' h1 h2 _ => ?_
    have hb : Below w.heap.size w w' := ⟨h2.os, h2.tape, h2.output, h2.size, fun k hk => h2.block k hk (by simp [Value.ownBlock])⟩
    refine h v' w' ?_ (IR.of w w' hb)
    have e : L.take (0 + 1) = [n] := by rw [<- hn]; rfl
    rw [e]
    exact h1.lower hbase
  · exact wp_append_ints s x ho base v L p 1 hp (by omega) (.inl (by omega)) hs hown b 0 1 hx (by rw [hn]; exact IRow.one hnew) hlen hbase h
theorem mem_split {l : List Nd} {i : Nat} (hF : Form l) (hi : i < l.length) (hk : (atN l i).kind = 4) {LL : List Int} {p : Nat} (h : (LL.drop p).take (memN l i).length = memI l i) : (memN l i).length = (memN l (atN l i).a.toNat).length + (memN l (atN l i).b.toNat).length /\ (LL.drop p).take (memN l (atN l i).a.toNat).length = memI l (atN l i).a.toNat /\ (LL.drop (p + (memN l (atN l i).a.toNat).length)).take (memN l (atN l i).b.toNat).length = memI l (atN l i).b.toNat := by
  have e := memN_k4 hF hi hk
  have hl : (memN l i).length = (memN l (atN l i).a.toNat).length + (memN l (atN l i).b.toNat).length := by rw [e, List.length_append]
  have e2 : memI l i = memI l (atN l i).a.toNat ++ memI l (atN l i).b.toNat := by unfold memI; rw [e, List.map_append]
  have ea : (memI l (atN l i).a.toNat).length = (memN l (atN l i).a.toNat).length := memI_length
  rw [hl, e2] at h
  refine ⟨hl, ?_, ?_⟩
  · have := congrArg (List.take (memN l (atN l i).a.toNat).length) h
    rw [List.take_take, Nat.min_eq_left (by omega), <- ea, List.take_left, ea] at this
    exact this
  · have := congrArg (List.drop (memN l (atN l i).a.toNat).length) h
    rw [<- ea, List.drop_left, ea, List.drop_take, List.drop_drop, Nat.add_sub_cancel_left] at this
    exact this
set_option maxHeartbeats 16000000 in
theorem mem_leaf {l : List Nd} {c m ba oa : Nat} {i : Nat} (hi : i < l.length) (hk : (atN l i).kind ≠ 4) : MemC (some ⟨ba, oa, none⟩) l c m i := by
  intro rb u W LL p v w0 w hr hb hown h0 hlen hLL hd
  have hm1 : (memN l i).length = 1 := by rw [memN_one hk]; rfl
  rw [hm1] at hlen hd ⊢
  have hd1 : (LL.drop p).take 1 = [(i : Int)] := by rw [hd]; unfold memI; rw [memN_one hk]; rfl
  have HR := Lib.hid (hr.later hb)
  have HB := Lib.hid hb.size
  have HO := Lib.hid hown
  have H0 := Lib.hid h0
  have HD := Lib.hid hd1
  obtain ⟨av, cv, hv, -⟩ := hown.row
  subst hv
  have HP : Hid (p + 1 <= LL.length) := hlen
  have HLL : Hid (LL.length < 536870912) := by unfold Hid; omega
  have hil : (i : Int) < (l.length : Int) := by omega
  have hi0 : ¬ (i : Int) < 0 := by omega
  obtain ⟨b8, o8, hA8, hg8⟩ := HR.out.row.at10 hi
  cases hA8
  unfold At10 at hg8
  obtain ⟨g0, -⟩ := hg8
  have k0 := HR.out.blk.cell 0
  simp at k0
  have hkz : ((atN l i).kind != 4) = true := by simpa using hk
  clear hr hb hown h0 hlen hLL hd hd1 hm1 hk
  generalize (atN l i).kind = kk at *
  obtain ⟨n, hn⟩ : ∃ n, (LL.take p).length = n := ⟨_, rfl⟩
  rw [hn] at HO H0 ⊢
  clear hn
  have hb3 := (Below.refl w.heap.size w).alloc (Nat.le_refl _) (.cells #[.int .i64 (i : Int)] 3)
  have HO3 := Lib.hid (HO.out.later hb3)
  have HX3 := Lib.hid (Blk.new w #[.int .i64 (i : Int)] 3)
  have HB3 := Lib.hid (Nat.le_trans HB.out hb3.size)
  have HI3 := Lib.hid (IR.of (base := w0.heap.size) (L := LL) w _ hb3)
  clear hb3
  go_enter Try.func58, Try.ntmps58
  go_wp2_with (at_builtin; refine wpList_plain rfl fun K hK => ?_; refine wp_append_mem _ _ rfl w0.heap.size _ LL p (i : Int) HP.out H0.out rfl HO3.out w.heap.size rfl HX3.out HD.out HLL.out HB3.out ?_; intro v' w6 h1 h2; have HO6 := Lib.hid h1; have HI6 := Lib.hid h2; refine hK _ _ ?_; clear h1 h2 hK K)
  go_ret
  exact ⟨v', rfl, HO6.out, HI3.out.trans HI6.out⟩
def MemV (B : Nat) (LL : List Int) (p : Nat) (v : Value) (w : World) : Prop := OwnI w B v (LL.take p) /\ B <= w.heap.size
theorem MemV.grow (B : Nat) (LL : List Int) (p : Nat) : ∀ v w w', MemV B LL p v w -> IR B LL w w' -> MemV B LL p v w' := fun v w w' h k => by
  obtain ⟨a1, a2, -, -⟩ := k.out h.2
  exact ⟨a2 v p h.1, Nat.le_trans h.2 a1.size⟩
structure MbS (rb : Nat) (A : Option Addr) (l : List Nd) (c : Nat) (u : Value) (W : Wd) (m : Nat) (LL : List Int) (p : Nat) (v0 : Value) (w0 ws : World) (w : World) : Prop where
  bel : Below w0.heap.size w0 w
  rd : Rdb rb A l c u W m w
  own : OwnI w w0.heap.size v0 (LL.take p)
  ir : IR w0.heap.size LL ws w
theorem MbS.grow {rb : Nat} {A : Option Addr} {l : List Nd} {c : Nat} {u : Value} {W : Wd} {m : Nat} {LL : List Int} {p : Nat} {v0 : Value} {w0 ws w w' : World} (hr : Rdb rb A l c u W m w0) (h : MbS rb A l c u W m LL p v0 w0 ws w) (k : IR w0.heap.size LL w w') : MbS rb A l c u W m LL p v0 w0 ws w' := by
  obtain ⟨a1, a2, -, -⟩ := k.out h.bel.size
  exact ⟨h.bel.trans a1, hr.later (h.bel.trans a1), a2 v0 p h.own, h.ir.trans k⟩
set_option maxHeartbeats 16000000 in
theorem mem_seq {l : List Nd} {c m ba oa : Nat} {i : Nat} (hF : Form l) (hi : i < l.length) (hk : (atN l i).kind = 4) (hA : MemC (some ⟨ba, oa, none⟩) l c m (atN l i).a.toNat) (hBB : MemC (some ⟨ba, oa, none⟩) l c m (atN l i).b.toNat) : MemC (some ⟨ba, oa, none⟩) l c m i := by
  intro rb u W LL p v w0 w hr hb hown h0 hlen hLL hd
  have hab : (((atN l i).a.toNat : Nat) : Int) = (atN l i).a /\ (((atN l i).b.toNat : Nat) : Int) = (atN l i).b := by
    have hcs := (hF.2.1 i hi).cs rfl
    cases hcs with
    | leaf h1 hf => unfold leafK at h1; omega
    | one h1 hi0 ha hb h7 hr hcl hf => omega
    | two h1 hi0 hb ha hf0 hl hcl hf => omega
  obtain ⟨hm, hda, hdb⟩ := mem_split hF hi hk hd
  have hpos := memN_pos hF (i := (atN l i).a.toNat) (by have := cnt_kidA hF hi (by omega); omega)
  obtain ⟨a, ha⟩ : ∃ a, (atN l i).a.toNat = a := ⟨_, rfl⟩
  obtain ⟨b, hbe⟩ : ∃ b, (atN l i).b.toNat = b := ⟨_, rfl⟩
  obtain ⟨haz, hbz⟩ := hab
  rw [ha] at hA haz hm hda hdb hpos
  rw [hbe] at hBB hbz hm hdb
  rw [hm] at hlen ⊢
  have HS : Hid (MbS rb (some ⟨ba, oa, none⟩) l c u W m LL p v w0 w w) := ⟨hb, hr.later hb, hown, IR.of w w (Below.refl _ _)⟩
  have HC1 : Hid (∀ w', MbS rb (some ⟨ba, oa, none⟩) l c u W m LL p v w0 w w' -> Calls Try.prog 58 #[.pointer (some ⟨rb, 0, none⟩), v, .int .i64 (a : Int)] w' (MemP w0.heap.size LL p (memN l a).length w')) := fun w' h => hA rb u W LL p v w0 w' hr h.bel h.own h0 (by omega) hLL hda
  have HC2 : Hid (∀ w' v', MbS rb (some ⟨ba, oa, none⟩) l c u W m LL p v w0 w w' -> MemV w0.heap.size LL (p + (memN l a).length) v' w' -> Calls Try.prog 58 #[.pointer (some ⟨rb, 0, none⟩), v', .int .i64 (b : Int)] w' (MemP w0.heap.size LL (p + (memN l a).length) (memN l b).length w')) := fun w' v' h k => hBB rb u W LL (p + (memN l a).length) v' w0 w' hr h.bel k.1 (fun e => by omega) (by omega) hLL hdb
  have HR := Lib.hid hr
  have HIR := Lib.hid (fun (w w' : World) (h : Below w.heap.size w w') => IR.of (base := w0.heap.size) (L := LL) w w' h)
  obtain ⟨av, cv, hv, -⟩ := hown.row
  subst hv
  obtain ⟨b8, o8, hA8, hg8⟩ := HS.out.rd.row.at10 hi
  cases hA8
  have HAT := Lib.hid (fun (w' : World) (h : NRow w' (some ⟨ba, oa, none⟩) l) => h.at (i := i) hi rfl)
  unfold At10 at hg8 HAT
  rw [show l.getD i nd0 = atN l i from rfl] at HAT
  obtain ⟨g0, -⟩ := hg8
  have k0 := HS.out.rd.blk.cell 0
  simp at k0
  have hil : (i : Int) < (l.length : Int) := by omega
  have hi0 : ¬ (i : Int) < 0 := by omega
  have hkz : ((atN l i).kind != 4) = false := by simpa using hk
  clear hr hb hown h0 hlen hLL hd hda hdb hA hBB hm hpos ha hbe hk
  generalize (atN l i).kind = kk at *
  generalize (atN l i).a = na at *
  generalize (atN l i).b = nb at *
  subst haz
  subst hbz
  obtain ⟨n, hn⟩ : ∃ n, (LL.take p).length = n := ⟨_, rfl⟩
  rw [hn] at HS HC1 HC2 ⊢
  clear hn
  generalize (memN l a).length = qa at *
  generalize (memN l b).length = qb at *
  go_enter Try.func58, Try.ntmps58
  go_upto_region 4 with (fail)
  clear g0 k0
  refine G.wp_region_stable_tail (R := (IR w0.heap.size LL)) HIR.out 13 (S := (MbS rb (some ⟨ba, oa, none⟩) l c u W m LL p (.slice av n cv) w0 w)) (hSt := fun _ _ h hr => h.grow HR.out hr) (plan := [[(0, none)], [(0, none)], [(1, none)], [(7, none)], [(26, some 3)], [(27, some 4)], [(28, some 5)], [(24, some 1), (25, some 2), (29, some 6)], [(7, none)], [(31, some 8)], [(32, some 9)], [(33, some 10)], [(23, some 0), (30, some 7), (34, some 11)]]) rfl rfl (by kernel_rfl) (by kernel_rfl) (by kernel_rfl) (by kernel_rfl) ?hS ?_
  rotate_left
  iterate 7 first
    | (refine G.chain_skip (by rfl) (by rfl) ?_)
    | (apply G.chain_want (by rfl)
       · intro act wx hS hr
         simp at hr
         have k0 := hS.rd.blk.cell 0
         simp at k0
         obtain ⟨g0, g1, g2, -⟩ := HAT.out _ hS.rd.row
         go_simp
         (try go_ints)
         first
           | exact G.Done.same HIR.out
      )
  (refine G.chain_rel (MemV w0.heap.size LL (p + qa)) (MemV.grow w0.heap.size LL (p + qa)) (by rfl) ?_ ?_
   · intro act wx hS hr
     simp at hr
     have k0 := hS.rd.blk.cell 0
     simp at k0
     obtain ⟨g0, g1, g2, -⟩ := HAT.out _ hS.rd.row
     all_goals go_simp
     (refine (HC1.out _ hS).mono ?_); rintro e w5 ⟨v5, rfl, ho5, hi5⟩; exact G.Done.rel hi5 ⟨ho5, Nat.le_trans hS.bel.size (hi5.out hS.bel.size).1.size⟩
  )
  iterate 4 first
    | (refine G.chain_skip (by rfl) (by rfl) ?_)
    | (apply G.chain_want (by rfl)
       · intro act wx hS hr
         simp at hr
         have k0 := hS.rd.blk.cell 0
         simp at k0
         obtain ⟨g0, g1, g2, -⟩ := HAT.out _ hS.rd.row
         go_simp
         (try go_ints)
         first
           | exact G.Done.same HIR.out
      )
  (refine G.chain_rel (MemV w0.heap.size LL (p + qa + qb)) (MemV.grow w0.heap.size LL (p + qa + qb)) (by rfl) ?_ ?_
   · intro act wx hS hr
     simp at hr
     have k0 := hS.rd.blk.cell 0
     simp at k0
     obtain ⟨g0, g1, g2, -⟩ := HAT.out _ hS.rd.row
     obtain ⟨hr1, ⟨v, hr2, hv⟩, hr3⟩ := hr
     all_goals go_simp
     (try simp only [hr1, hr2, hr3, Option.getD_some]); (refine (HC2.out _ _ hS hv).mono ?_); rintro e w5 ⟨v5, rfl, ho5, hi5⟩; exact G.Done.rel hi5 ⟨ho5, Nat.le_trans hS.bel.size (hi5.out hS.bel.size).1.size⟩
  )
  show ∀ w', _ -> _
  intro wz hz
  simp [Act.put]
  case hS => exact HS.out
  intro v7 _ v12 hv12
  have HO := Lib.hid hv12.1
  have HI := Lib.hid hz.ir
  clear hz hv12 HS HC1 HC2 HAT HIR
  go_wp2
  go_ret
  exact ⟨v12, rfl, by rw [<- Nat.add_assoc]; exact HO.out, HI.out⟩
theorem mem_any {l : List Nd} {c m ba oa : Nat} (hF : Form l) : ∀ i, i < l.length -> MemC (some ⟨ba, oa, none⟩) l c m i := by
  intro i
  induction i using Nat.strongRecOn with
  | ind i ih =>
    intro hi
    by_cases hk : (atN l i).kind = 4
    · have ha := cnt_kidA hF hi (by omega)
      have hb := cnt_kidB hF hi (.inl hk)
      exact mem_seq hF hi hk (ih _ ha (by omega)) (ih _ hb (by omega))
    · exact mem_leaf hi hk
theorem members_any {l : List Nd} {c m ba oa : Nat} (hF : Form l) {i : Nat} (hi : i < l.length) (hln : (memN l i).length <= 100000) {rb : Nat} {u : Value} {W : Wd} {w : World} (hr : Rdb rb (some ⟨ba, oa, none⟩) l c u W m w) :
    Calls Try.prog 58 #[.pointer (some ⟨rb, 0, none⟩), .slice none 0 0, .int .i64 (i : Int)] w (fun e w' => ∃ v, e = .returned v /\ OwnI w' w.heap.size v (memI l i) /\ Below w.heap.size w w') := by
  have := mem_any (c := c) (m := m) (ba := ba) (oa := oa) hF i hi rb u W (memI l i) 0 (.slice none 0 0) w w hr (Below.refl _ _) (by rw [List.take_zero]; exact OwnI.nil _ _) (fun _ => rfl) (by rw [memI_length]; omega) (by rw [memI_length]; exact hln) (by rw [List.drop_zero, List.take_of_length_le (by rw [memI_length]; exact Nat.le_refl _)])
  refine this.mono fun e w' h => ?_
  obtain ⟨v, h1, h2, h3⟩ := h
  refine ⟨v, h1, ?_, (h3.out (Nat.le_refl _)).1⟩
  rwa [Nat.zero_add, List.take_of_length_le (by rw [memI_length]; exact Nat.le_refl _)] at h2
def OwnLs (w : World) (base : Nat) (v : Value) (vs : List Value) : Prop := w.ownsRow base 78 1 v vs.length vs
theorem OwnLs.later {w w' : World} {base : Nat} {v : Value} {vs : List Value} (h : OwnLs w base v vs) (hb : Below w.heap.size w w') : OwnLs w' base v vs := ownsRow_later h hb
theorem OwnLs.nil (w : World) (base : Nat) : OwnLs w base (.slice none 0 0) [] := ⟨rfl, .inl ⟨rfl, rfl⟩⟩
theorem OwnLs.one {w : World} {base g : Nat} {u : Value} (h : Blk w g #[u] 78) (hb : base <= g) : OwnLs w base (.slice (some ⟨g, 0, none⟩) 1 1) [u] :=
  ⟨rfl, .inr ⟨g, 1, #[u], rfl, hb, h, Nat.le_refl _, by unfold maxLen; omega, rfl, rfl⟩⟩
theorem infoLs : (Try.prog.info? 78).map (fun i => (i.zero, i.size, i.bytes)) = some (some (.slice none 0 0), 1, 24) := by kernel_rfl
theorem wp_append_ls {w : World} {o : Oper} {a : Act} {K : Act -> World -> Prop} {Q : Exit -> Act -> World -> Prop} (s x : Operand)
    (ho : o.op = .call { callee := .builtin .append, args := #[s, x], argTypes := #[99, 99] })
    (base : Nat) (v : Value) (vs : List Value) (hs : a.eval s = v) (hown : OwnLs w base v vs)
    (b : Nat) (A : Option Addr) (n c : Nat) (hx : a.eval x = .slice (some ⟨b, 0, none⟩) 1 1) (hnew : Blk w b #[.slice A n c] 78) (hlen : vs.length < 1073741000) (hbase : base <= w.heap.size)
    (h : ∀ v' w', OwnLs w' base v' (vs ++ [.slice A n c]) -> w.grownBy w' v.ownBlock -> K (a.put o.dst v') w') : o.wp Try.prog a w K Q := by
  obtain ⟨ib, hib, hz0, hz1, hz2⟩ := info_parts infoLs
  have hnews : ∀ (j : Nat) (u : Value), [Value.slice A n c][j]? = some u -> w.cell? ((⟨b, 0, none⟩ : Addr).add j) = some u := by
    intro j u hu
    cases j with
    | zero => simp at hu; subst hu; exact hnew.cell 0
    | succ j => simp at hu
  have hone : ∀ u ∈ [Value.slice A n c], u.oneCell' = true := by simp [Value.oneCell']
  obtain ⟨v', w', hr, h2, h3, _⟩ := run_append_own (P := Try.prog) w base 99 o.type 78 ib _ 1 24 Try.underlying99 hib hz0 hz1 hz2 rfl (by decide) v vs.length vs hown ⟨b, 0, none⟩ 1 1 [.slice A n c] rfl hnews hone (by unfold maxLen; omega) (by omega) hbase
  unfold Oper.wp execOp
  simp only [ho, resolve, invoke, builtin, Sem.run_bind, Sem.run_pure, Result.andThen_ok, List.map_toArray, List.map_cons, List.map_nil, hs, hx, hr]
  exact h v' w' (by unfold OwnLs; rw [List.length_append]; exact h2) h3
def LsR (w : World) (vs : List Value) (Ls : List (List (Nat × Nat))) : Prop := vs.length = Ls.length /\ ∀ k, k < vs.length -> IsR w (vs.getD k (.int .i64 0)) (Ls.getD k [])
theorem LsR.kc {w w' : World} {vs : List Value} {Ls : List (List (Nat × Nat))} (h : LsR w vs Ls) (k : Kc w.heap.size w w') : LsR w' vs Ls := ⟨h.1, fun j hj => k.isR (h.2 j hj)⟩
theorem LsR.keep {w w' : World} {vs : List Value} {Ls : List (List (Nat × Nat))} (h : LsR w vs Ls) (k : ∀ b cur, Blk w b cur 92 -> Blk w' b cur 92) : LsR w' vs Ls := ⟨h.1, fun j hj => by
  obtain ⟨A, c, h1, h2, h3⟩ := h.2 j hj
  exact ⟨A, c, h1, h2, h3.keep k⟩⟩
theorem LsR.snoc {w : World} {vs : List Value} {Ls : List (List (Nat × Nat))} (h : LsR w vs Ls) {u : Value} {L : List (Nat × Nat)} (hu : IsR w u L) : LsR w (vs ++ [u]) (Ls ++ [L]) := by
  refine ⟨by simp [h.1], fun j hj => ?_⟩
  have hl := h.1
  by_cases hk : j < vs.length
  · rw [List.getD_eq_getElem?_getD, List.getD_eq_getElem?_getD, List.getElem?_append_left hk, List.getElem?_append_left (by omega), <- List.getD_eq_getElem?_getD, <- List.getD_eq_getElem?_getD]
    exact h.2 j hk
  · have : j = vs.length := by simp at hj; omega
    subst this
    rw [List.getD_eq_getElem?_getD, List.getD_eq_getElem?_getD, List.getElem?_append_right (Nat.le_refl _), List.getElem?_append_right (by omega), hl]
    simpa using hu
theorem LsR.nil (w : World) : LsR w [] [] := ⟨rfl, fun j hj => by simp at hj⟩
def rwF (l : List Nd) (ms : List Nat) (W : Wd) (a : Nat) (p : Nat) : Nat := min 2 (sV (ms.reverse.map (EN l)) W a p)
def rwL (l : List Nd) (ms : List Nat) (W : Wd) (a k : Nat) : List (List (Nat × Nat)) := (List.range (k + 1)).map fun j => plF (W.length + 1) (rwF l (ms.take j) W a)
theorem rwL_succ {l : List Nd} {ms : List Nat} {W : Wd} {a k : Nat} : rwL l ms W a (k + 1) = rwL l ms W a k ++ [plF (W.length + 1) (rwF l (ms.take (k + 1)) W a)] := by
  unfold rwL; rw [List.range_succ, List.map_append]; rfl
theorem rwL_length {l : List Nd} {ms : List Nat} {W : Wd} {a k : Nat} : (rwL l ms W a k).length = k + 1 := by unfold rwL; simp
theorem rwL_get {l : List Nd} {ms : List Nat} {W : Wd} {a k j : Nat} (hj : j <= k) : (rwL l ms W a k).getD j [] = plF (W.length + 1) (rwF l (ms.take j) W a) := by
  unfold rwL
  rw [List.getD_eq_getElem?_getD, List.getElem?_map, List.getElem?_range (by omega)]; rfl
theorem rwF_nil {l : List Nd} {W : Wd} {a p : Nat} (hp : p <= W.length) : rwF l [] W a p = if p = a then 1 else 0 := by
  unfold rwF
  show min 2 (sV [] W a p) = _
  rw [sV_nil hp]; split <;> rfl
theorem rwL_zero {l : List Nd} {ms : List Nat} {W : Wd} {a : Nat} (ha : a <= W.length) : rwL l ms W a 0 = [[(a, 1)]] := by
  unfold rwL
  show [plF (W.length + 1) (rwF l (ms.take 0) W a)] = _
  rw [List.take_zero, plF_congr (G := fun b => if b = a then 1 else 0) fun b hb => rwF_nil (by omega), plF_one (by omega) (by decide)]
theorem mem_take {ms : List Nat} {k : Nat} (hk : k < ms.length) : ms.take (k + 1) = ms.take k ++ [ms.getD k 0] := by
  rw [List.take_succ_eq_append_getElem hk, List.getD_eq_getElem?_getD, List.getElem?_eq_getElem hk]; rfl
theorem rwF_next {l : List Nd} {ms : List Nat} {W : Wd} {a k : Nat} (hF : Form l) (hk : k < ms.length) (hm : ms.getD k 0 < l.length) {b : Nat} (hb : b < W.length + 1) : thV l (ms.getD k 0) W (rwF l (ms.take k) W a) b = rwF l (ms.take (k + 1)) W a b := by
  rw [mem_take hk]
  exact th_snoc hF hm (by omega)
theorem sV_len {l : List Nd} {ms : List Nat} {W : Wd} {a b : Nat} : sV (ms.reverse.map (EN l)) W a b = if a <= b then (sqE (ms.reverse.map (EN l)) (sgW W a b)).length else 0 := rfl
theorem rw_step {l : List Nd} {ms : List Nat} {W : Wd} {a k tt rk : Nat} {ys : List Vl} (hF : Form l) (hk : k < ms.length) (hm : ms.getD k 0 < l.length) (hat : a <= tt) (ht : tt <= W.length) (h : (sqE ((ms.take (k + 1)).reverse.map (EN l)) (sgW W a tt))[rk]? = some ys) :
    rk < sg (W.length + 1) (kdf l (ms.getD k 0) W tt (sV ((ms.take k).reverse.map (EN l)) W a)) /\ ∀ q r s v, q <= tt -> r < sV ((ms.take k).reverse.map (EN l)) W a q -> rk = sg q (kdf l (ms.getD k 0) W tt (sV ((ms.take k).reverse.map (EN l)) W a)) + (r * cV l (ms.getD k 0) W q tt + s) -> (EN l (ms.getD k 0) (sgW W q tt))[s]? = some v -> a <= q /\ ∃ ys', (sqE ((ms.take k).reverse.map (EN l)) (sgW W a q))[r]? = some ys' /\ ys = ys' ++ [v] := by
  rw [mem_take hk] at h
  generalize ms.getD k 0 = i at *
  generalize ms.take k = ns at *
  constructor
  · have h1 : rk < sV ((ns ++ [i]).reverse.map (EN l)) W a tt := by rw [sV_len, if_pos hat]; exact (List.getElem?_eq_some_iff.1 h).1
    rw [sV_snoc hF hm ht] at h1
    exact h1
  · intro q r s v hq hr hrk hv
    have haq : a <= q := by
      by_cases h2 : a <= q
      · exact h2
      · exfalso; rw [sV_len, if_neg h2] at hr; omega
    have hr2 : r < (sqE (ns.reverse.map (EN l)) (sgW W a q)).length := by rw [sV_len, if_pos haq] at hr; exact hr
    refine ⟨haq, _, List.getElem?_eq_getElem hr2, ?_⟩
    have := idx_row hF hm haq hq ht (List.getElem?_eq_getElem hr2) hv
    rw [show sg q (fun q => sV (ns.reverse.map (EN l)) W a q * cV l i W q tt) = sg q (kdf l i W tt (sV (ns.reverse.map (EN l)) W a)) from rfl, <- hrk, h] at this
    exact Option.some.inj this
theorem memN_len {l : List Nd} (hF : Form l) : ∀ i, i < l.length -> (memN l i).length + firstP l i <= i + 1 := by
  intro i
  induction i using Nat.strongRecOn with
  | ind i ih =>
    intro hi
    have hle := firstP_le l i
    by_cases hk : (atN l i).kind = 4
    · rw [memN_k4 hF hi hk, List.length_append]
      have hcs := (hF.2.1 i hi).cs rfl
      cases hcs with
      | leaf h1 hf => unfold leafK at h1; omega
      | one h1 hi0 ha hb h7 hr hcl hf => omega
      | two h1 hi0 hb ha hf0 hl hcl hf =>
        have h2 := firstP_le l (i - 1)
        have ea : (atN l i).a.toNat = firstP l (i - 1) - 1 := by omega
        have eb : (atN l i).b.toNat = i - 1 := by omega
        have k1 := ih (firstP l (i - 1) - 1) (by omega) (by omega)
        have k2 := ih (i - 1) (by omega) (by omega)
        rw [ea, eb]
        omega
    · rw [memN_one hk]; show 1 + _ <= _; omega
theorem IRow.kc {w w' : World} {a : Option Addr} {L : List Int} (h : IRow w a L) (k : Kc w.heap.size w w') : IRow w' a L := fun i hi => by
  obtain ⟨b, off, ha, hlt, hc⟩ := h i hi
  exact ⟨b, off, ha, Nat.lt_of_lt_of_le hlt k.size, k.cell ⟨b, off + i, none⟩ _ hlt hc⟩
theorem IRow.mem {w : World} {a : Option Addr} {l : List Nd} {i k : Nat} (h : IRow w a (memI l i)) (hk : k < (memN l i).length) : ∃ b o, a = some ⟨b, o, none⟩ /\ w.cell? ⟨b, o + k, none⟩ = some (.int .i64 (((memN l i).getD k 0 : Nat) : Int)) := by
  obtain ⟨b, o, ha, -, hc⟩ := h k (by rw [memI_length]; exact hk)
  refine ⟨b, o, ha, ?_⟩
  rw [hc]; unfold memI
  rw [List.getD_eq_getElem?_getD, List.getElem?_map, List.getElem?_eq_getElem hk, List.getD_eq_getElem?_getD, List.getElem?_eq_getElem hk]; rfl
structure CrwS (m : Nat) (l : List Nd) (V : Wd) (W : Wd) (a i k : Nat) (v : Value) (vs : List Value) (w1 w : World) : Prop where
  rk : Rk m l V w1.heap.size [] w1 w
  own : OwnLs w w1.heap.size v vs
  ls : LsR w vs (rwL l (memN l i) W a k)
theorem CrwS.call {m : Nat} {l : List Nd} {V W : Wd} {a i k : Nat} {v : Value} {vs : List Value} {w1 w w' : World} (hK : ∃ X, KeptX w m l V X) (h : CrwS m l V W a i k v vs w1 w) (hk : Rk m l V w.heap.size [] w w') : CrwS m l V W a i k v vs w1 w' :=
  ⟨h.rk.call h.rk.size hk, (hk.kc hK).owns h.own, h.ls.kc (hk.kc hK)⟩
def CrwL (m : Nat) (l : List Nd) (V : Wd) (W : Wd) (a i n : Nat) (w1 : World) (v x : Value) (w : World) : Prop := ∃ (k : Nat) (vs : List Value), k + 1 <= n /\ x = .int .i64 (k : Int) /\ CrwS m l V W a i k v vs w1 w
theorem LsR.at_ {w : World} {vs : List Value} {Ls : List (List (Nat × Nat))} (h : LsR w vs Ls) {k : Nat} (hk : k < vs.length) : ∃ A c, vs.getD k (.int .i64 0) = .slice A (Ls.getD k []).length c /\ (Ls.getD k []).length <= c /\ RcRow w A (Ls.getD k []) := by
  obtain ⟨A, c, h1, h2, h3⟩ := h.2 k hk
  exact ⟨A, c, h1, h2, h3⟩
def LsRow (w : World) (a : Option Addr) (vs : List Value) : Prop := ∀ k, k < vs.length -> ∃ g, a = some ⟨g, 0, none⟩ /\ g < w.heap.size /\ w.cell? ⟨g, k, none⟩ = some (vs.getD k (.int .i64 0))
theorem LsRow.kc {w w' : World} {a : Option Addr} {vs : List Value} (h : LsRow w a vs) (k : Kc w.heap.size w w') : LsRow w' a vs := fun j hj => by
  obtain ⟨g, h1, h2, h3⟩ := h j hj
  exact ⟨g, h1, Nat.lt_of_lt_of_le h2 k.size, k.cell ⟨g, j, none⟩ _ h2 h3⟩
theorem OwnLs.lsRow {w : World} {base : Nat} {v : Value} {vs : List Value} (h : OwnLs w base v vs) : ∃ a cap, v = .slice a vs.length cap /\ LsRow w a vs := by
  obtain ⟨_, ⟨hv, hn⟩ | ⟨g, cap, cur, hv, hb, hg, hc, hm, hs, ht⟩⟩ := h
  · exact ⟨none, 0, by rw [hv, hn], fun k hk => by omega⟩
  · refine ⟨_, cap, hv, fun k hk => ⟨g, rfl, Blk.lt (w := w) (b := g) (vs := cur) (t := 78) hg, ?_⟩⟩
    rw [Blk.cell (w := w) (b := g) (vs := cur) (t := 78) hg, List.getD_eq_getElem?_getD, List.getElem?_eq_getElem hk]
    have : cur[k]? = (cur.toList.take (vs.length * 1))[k]? := by rw [List.getElem?_take, if_pos (by omega)]; simp
    rw [this, ht, List.getElem?_eq_getElem hk]; rfl
structure CrpS (m : Nat) (l : List Nd) (V W : Wd) (rb i a tt rk : Nat) (tv : Value) (L : List VCl) (am av : Option Addr) (vs : List Value) (w4 w : World) : Prop where
  k : Rk m l V w4.heap.size [] w4 w
  wk : Wk w4.heap.size w4.heap.size rb tt rk tv L w
  mem : IRow w am (memI l i)
  row : LsRow w av vs
  ls : LsR w vs (rwL l (memN l i) W a ((memN l i).length - 1))
theorem CrpS.later {m : Nat} {l : List Nd} {V W : Wd} {rb i a tt rk : Nat} {tv : Value} {L : List VCl} {am av : Option Addr} {vs : List Value} {w4 w w' : World} (h : CrpS m l V W rb i a tt rk tv L am av vs w4 w) (hb : Below w.heap.size w w') : CrpS m l V W rb i a tt rk tv L am av vs w4 w' :=
  ⟨h.k.later h.k.size hb, h.wk.later hb, h.mem.later hb, fun j hj => by
    obtain ⟨g, h1, h2, h3⟩ := h.row j hj
    exact ⟨g, h1, Nat.lt_of_lt_of_le h2 hb.size, (hb.cell (p := ⟨g, j, none⟩) h2).trans h3⟩, h.ls.keep fun b cur k => k.later hb⟩
def CrpL (m : Nat) (l : List Nd) (V W : Wd) (rb i a to_ : Nat) (xs : List Vl) (am av : Option Addr) (vs : List Value) (w4 : World) (x : Value) (w : World) : Prop :=
  ∃ (k tt rk : Nat) (tv : Value) (L : List VCl) (ys : List Vl), k <= (memN l i).length /\ x = .int .i64 ((k : Int) - 1) /\ a <= tt /\ tt <= to_ /\ rk <= 1 /\ L.length + k = (memN l i).length /\ (sqE (((memN l i).take k).reverse.map (EN l)) (sgW W a tt))[rk]? = some ys /\ xs = ys ++ (L.map (·.v)).reverse /\ CrpS m l V W rb i a tt rk tv L am av vs w4 w
set_option maxHeartbeats 16000000 in
theorem crow_any {l : List Nd} {c m ba oa : Nat} {V : Wd} {i : Nat} (hF : Form l) (hl : l.length <= 4096) (hi : i < l.length) (hk4 : (atN l i).kind = 4) (hE : ∀ j, j < i -> EndsC (some ⟨ba, oa, none⟩) l c m V j) (hRd : ∀ j, j < i -> ReadC (some ⟨ba, oa, none⟩) l c m V j) (hV : ∀ j, j < i -> ValC (some ⟨ba, oa, none⟩) l c m V j)
    (rb : Nat) (u : Value) (W : Wd) (fr tt rk : Nat) (xs : List Vl) (w : World) (hr : Rdr rb (some ⟨ba, oa, none⟩) l c u W V m w) (hW : W <+: V) (hn : V.length <= 900) (hft : fr <= tt) (ht : tt <= W.length) (hrk : rk <= 1) (hx : (sqE ((memN l i).reverse.map (EN l)) (sgW W fr tt))[rk]? = some xs) :
    Calls Try.prog 47 #[.pointer (some ⟨rb, 0, none⟩), .int .i64 (i : Int), .int .i64 (fr : Int), .int .i64 (tt : Int), .int .i64 (rk : Int)] w (KsP m l V xs w) := by
  have hWn : W.length <= 900 := by obtain ⟨t, rfl⟩ := hW; simp at hn; omega
  have hml := memN_len hF i hi
  have hmp := memN_pos hF hi
  have HLT := Lib.hid (memN_lt hF hi hk4)
  have HC := Lib.hid (members_any (c := c) (m := m) (ba := ba) (oa := oa) hF hi (by omega) hr.rd)
  have HR0 := Lib.hid hr
  have HWW := Lib.hid hW
  have HFI : Hid (Form l /\ i < l.length) := ⟨hF, hi⟩
  have HE := Lib.hid hE
  have HRD := Lib.hid hRd
  have HV := Lib.hid hV
  have HX := Lib.hid hx
  obtain ⟨n, hN⟩ : ∃ n, (memN l i).length = n := ⟨_, rfl⟩
  have HN := Lib.hid hN
  rw [hN] at hml hmp
  clear hr hW hE hRd hV hx hk4 hN
  go_enter Try.func47, Try.ntmps47
  go_wp2_with fail
  refine HC.out.mono ?_; rintro e w1 ⟨v1, rfl, ho1, hb1⟩
  obtain ⟨gm, cm, hv1, hcm, -, -⟩ := ho1.drop (by rw [memI_length, HN.out]; omega)
  obtain ⟨am, cm', hv2, hrm1⟩ := ho1.row
  rw [hv1] at hv2
  cases hv2
  rw [memI_length, HN.out] at hv1 hcm
  subst hv1
  have HR1 := Lib.hid (HR0.out.later hb1)
  have HB1 := Lib.hid hb1
  have HM1 := Lib.hid hrm1
  clear ho1 hb1 hrm1 HC HR0
  have hnz : (0 : Int) <= (n : Int) - 1 := by omega
  have hnz2 : (n : Int) <= 4097 := by omega
  go_upto_region 5 with (fail)
  have hb2 := (Below.refl w1.heap.size w1).alloc (Nat.le_refl _) (.cells #[.int .i64 (fr : Int), .int .i64 1] 92)
  have hk2 : Blk (w1.alloc (.cells #[.int .i64 (fr : Int), .int .i64 1] 92)) w1.heap.size (rcC (fr, 1)) 92 := Blk.new w1 _ _
  have hb3 := (Below.refl (w1.alloc (.cells #[.int .i64 (fr : Int), .int .i64 1] 92)).heap.size _).alloc (Nat.le_refl _) (.cells #[.slice (some ⟨w1.heap.size, 0, none⟩) 1 1] 78)
  have hk3 := Blk.new (w1.alloc (.cells #[.int .i64 (fr : Int), .int .i64 1] 92)) #[.slice (some ⟨w1.heap.size, 0, none⟩) 1 1] 78
  rw [show (w1.alloc (.cells #[.int .i64 (fr : Int), .int .i64 1] 92)).heap.size = w1.heap.size + 1 from World.size_alloc _ _] at hk3
  have HS0 : Hid (CrwL m l V W fr i n w1 (.slice (some ⟨w1.heap.size + 1, 0, none⟩) 1 1) (.int .i64 0) ((w1.alloc (.cells #[.int .i64 (fr : Int), .int .i64 1] 92)).alloc (.cells #[.slice (some ⟨w1.heap.size, 0, none⟩) 1 1] 78))) := by
    refine ⟨0, [.slice (some ⟨w1.heap.size, 0, none⟩) 1 1], by omega, rfl, ⟨.of_below (hb2.trans (hb3.mono hb2.size)), OwnLs.one hk3 (Nat.le_succ _), ?_⟩⟩
    rw [rwL_zero (by omega)]
    exact (LsR.nil _).snoc ⟨_, _, rfl, Nat.le_refl _, RcRow.one (hk2.later hb3)⟩
  clear hb2 hk2 hb3 hk3
  generalize (w1.alloc (.cells #[.int .i64 (fr : Int), .int .i64 1] 92)).alloc (.cells #[.slice (some ⟨w1.heap.size, 0, none⟩) 1 1] 78) = w2 at HS0 ⊢
  go_loopw [13, 32] (CrwL m l V W fr i n w1) (fun _ x _ => n - (intOf x).toNat)
  case atStart => exact HS0.out
  case round =>
    obtain ⟨k, vs, hk, rfl, hs⟩ := hrel
    have HS := Lib.hid hs
    have HRW := Lib.hid (HR1.out.at_ (Nat.le_refl _) hs.rk)
    have HMW := Lib.hid (HM1.out.kc (hs.rk.kc ⟨_, HR1.out.kept⟩))
    have hvl : vs.length = k + 1 := by rw [hs.ls.1, rwL_length]
    obtain ⟨a9, c9, hv9, hrow9⟩ := hs.own.lsRow
    have HVL := Lib.hid hvl
    clear hs HS0
    by_cases hlt : k + 1 < n
    · rw [hvl] at hv9
      subst hv9
      have hltz : (k : Int) < ((n - 1 : Nat) : Int) := by omega
      obtain ⟨bm, om, hem, hcm2⟩ := HMW.out.mem (k := k) (by rw [HN.out]; omega)
      cases hem
      obtain ⟨g9, rfl, -, hc9⟩ := hrow9 k (by omega)
      obtain ⟨A9, n9, hw9, -, -⟩ := HS.out.ls.at_ (k := k) (by omega)
      have hjm : (memN l i).getD k 0 ∈ memN l i := by rw [List.getD_eq_getElem?_getD, List.getElem?_eq_getElem (by rw [HN.out]; omega)]; exact List.getElem_mem _
      have hji := HLT.out _ hjm
      have hIs := HS.out.ls.2 k (by omega)
      rw [rwL_get (Nat.le_refl _)] at hIs
      rw [hw9] at hc9 hIs
      have HCR := Lib.hid (HRD.out _ hji rb u W (rwF l ((memN l i).take k) W fr) _ wr HRW.out HWW.out (fun b => by unfold rwF; omega) hIs)
      have HNX : Hid (plF (W.length + 1) (thV l ((memN l i).getD k 0) W (rwF l ((memN l i).take k) W fr)) = plF (W.length + 1) (rwF l ((memN l i).take (k + 1)) W fr)) := plF_congr fun b hb => rwF_next HFI.out.1 (by rw [HN.out]; omega) (by have := HFI.out.2; omega) hb
      rw [HNX.out] at HCR
      have HLT2 := Lib.hid hlt
      clear hjm hji hIs hw9 hrow9 hvl hlt
      generalize (memN l i).getD k 0 = j at *
      generalize ((rwL l (memN l i) W fr k).getD k []).length = q9 at *
      rw [Nat.zero_add] at hcm2
      go_wp2_with fail
      refine HCR.out.mono ?_; rintro e w5 ⟨v5, rfl, hi5, hk5, -⟩
      obtain ⟨A5, n5, rfl, hl5, hr5⟩ := hi5
      have HK5 := Lib.hid (HS.out.call ⟨_, HRW.out.kept⟩ hk5)
      have hI5 : IsR w5 (.slice A5 (plF (W.length + 1) (rwF l ((memN l i).take (k + 1)) W fr)).length n5) (plF (W.length + 1) (rwF l ((memN l i).take (k + 1)) W fr)) := ⟨A5, n5, rfl, hl5, hr5⟩
      have HI5 := Lib.hid hI5
      clear hk5 hl5 hr5 hI5 HCR hc9 hcm2 HS HRW HMW
      generalize (plF (W.length + 1) (rwF l ((memN l i).take (k + 1)) W fr)).length = q5 at HI5 ⊢
      have hb6 := (Below.refl w5.heap.size w5).alloc (Nat.le_refl _) (.cells #[.slice A5 q5 n5] 78)
      have HX6 := Lib.hid (Blk.new w5 #[.slice A5 q5 n5] 78)
      have HS6 : Hid (CrwS m l V W fr i k (.slice (some ⟨g9, 0, none⟩) (k + 1) c9) vs w1 (w5.alloc (.cells #[.slice A5 q5 n5] 78))) := ⟨HK5.out.rk.later HK5.out.rk.size hb6, HK5.out.own.later hb6, HK5.out.ls.keep fun b cur h => h.later hb6⟩
      have HI6 : Hid (IsR (w5.alloc (.cells #[.slice A5 q5 n5] 78)) (.slice A5 q5 n5) (plF (W.length + 1) (rwF l ((memN l i).take (k + 1)) W fr))) := by
        obtain ⟨A, c, h1, h2, h3⟩ := HI5.out
        exact ⟨A, c, h1, h2, h3.later hb6⟩
      have HVB : Hid (vs.length < 1073741000) := by unfold Hid; rw [HVL.out]; omega
      have HB6 := Lib.hid (HS6.out.rk.size)
      clear hb6 HK5 HI5
      go_wp2_with (at_builtin; refine wpList_plain rfl fun K hK => ?_; refine wp_append_ls _ _ rfl w1.heap.size _ vs rfl HS6.out.own w5.heap.size A5 q5 n5 rfl HX6.out HVB.out HB6.out ?_; intro v' w7 h1 h2; have HO7 := Lib.hid h1; have HG7 := Lib.hid h2; refine hK _ _ ?_; clear h1 h2 hK K)
      have HS7 : Hid (CrwS m l V W fr i (k + 1) v' (vs ++ [.slice A5 q5 n5]) w1 w7) := by
        have hkp : ∀ b cur, Blk (w5.alloc (.cells #[.slice A5 q5 n5] 78)) b cur 92 -> Blk w7 b cur 92 := fun b cur hb => (HG7.out.block b hb.lt (fun e => own_typedU HS6.out.own hb (by decide) b e.symm rfl)).trans hb
        refine ⟨HS6.out.rk.growT HB6.out HS6.out.own (by decide) HG7.out, HO7.out, ?_⟩
        rw [rwL_succ]
        refine (HS6.out.ls.keep hkp).snoc ?_
        obtain ⟨A, c, h1, h2, h3⟩ := HI6.out
        exact ⟨A, c, h1, h2, h3.keep hkp⟩
      go_roundw
      case rel => exact ⟨k + 1, _, by have := HLT2.out; omega, by go_num, HS7.out⟩
      case measure => have := HLT2.out; simp [intOf] <;> omega
    · obtain rfl : k = n - 1 := by omega
      have hvn : vs.length = n := by omega
      rw [hvn] at hv9
      subst hv9
      have hltz : ¬ ((n - 1 : Nat) : Int) < ((n - 1 : Nat) : Int) := by omega
      have HLS : Hid (LsR wr vs (rwL l (memN l i) W fr ((memN l i).length - 1))) := by unfold Hid; rw [HN.out]; exact HS.out.ls
      have HRO := Lib.hid hrow9
      have HK4 := Lib.hid HS.out.rk
      have hb4 := (Below.refl wr.heap.size wr).alloc (Nat.le_refl _) (.cells #[.pointer (some ⟨rb, 0, none⟩), .int .i64 (tt : Int), .int .i64 (rk : Int), .slice none 0 0] 102)
      have HS4 : Hid (CrpL m l V W rb i fr tt xs (some ⟨gm, 0, none⟩) a9 vs wr (.int .i64 ((n : Int) - 1)) (wr.alloc (.cells #[.pointer (some ⟨rb, 0, none⟩), .int .i64 (tt : Int), .int .i64 (rk : Int), .slice none 0 0] 102))) := by
        refine ⟨n, tt, rk, .slice none 0 0, [], xs, by rw [HN.out]; exact Nat.le_refl _, rfl, hft, Nat.le_refl _, hrk, by rw [HN.out]; simp, by rw [List.take_of_length_le (by rw [HN.out]; exact Nat.le_refl _)]; exact HX.out, by simp, ?_⟩
        exact ⟨.of_below hb4, ⟨Blk.new wr _ _, Nat.le_refl _, ⟨by simp [flatV], .inl ⟨rfl, rfl⟩⟩, fun y hy => by cases hy⟩, HMW.out.later hb4, fun j hj => by
          obtain ⟨g, h1, h2, h3⟩ := hrow9 j hj
          exact ⟨g, h1, Nat.lt_of_lt_of_le h2 hb4.size, (hb4.cell (p := ⟨g, j, none⟩) h2).trans h3⟩, HLS.out.keep fun b cur h => h.later hb4⟩
      have HMB : Hid (m < wr.heap.size) := by
        obtain ⟨es, hm, -⟩ := HRW.out.kept
        exact hm.lt
      clear hb4 hrow9 hvl hlt hk HS hrk hft
      go_wp2
      generalize wr.alloc (.cells #[.pointer (some ⟨rb, 0, none⟩), .int .i64 (tt : Int), .int .i64 (rk : Int), .slice none 0 0] 102) = w4 at HS4 ⊢
      obtain ⟨wl, hwl⟩ : ∃ wl, wl = wr := ⟨wr, rfl⟩
      subst hwl
      go_loopw [17] (CrpL m l V W rb i fr tt xs (some ⟨gm, 0, none⟩) a9 vs wl) (fun x _ => (intOf x + 1).toNat)
      case atStart => exact HS4.out
      case round =>
        obtain ⟨k, t1, r1, tv, L, ys, hk, rfl, h1, h2, h3, h4, h5, h6, hst⟩ := hrel
        have HST := Lib.hid hst
        have H5 := Lib.hid h5
        have H6 := Lib.hid h6
        have H4 := Lib.hid h4
        clear hst h5 h6 h4 HS4
        rw [HN.out] at hk
        cases k with
        | zero =>
          have hneg : ¬ (((0 : Nat) : Int) - 1) >= 0 := by omega
          have hys : ys = [] := by
            have h7 := H5.out
            rw [List.take_zero] at h7
            change (if sgW W fr t1 = [] then [[]] else [])[r1]? = some ys at h7
            split at h7
            · cases r1 with
              | zero => exact (Option.some.inj h7).symm
              | succ r => cases h7
            · cases h7
          have HXS : Hid (xs = (L.map (·.v)).reverse) := by unfold Hid; rw [H6.out, hys]; rfl
          have HI := Lib.hid (cinOrder_any (l := l) (V := V) (m := m) (L := L) (by have := H4.out; rw [HN.out] at this; omega) _ HST.out.wk HST.out.k.size HMB.out)
          have HRKW := Lib.hid HST.out.k
          clear HST H5 H6 hys
          go_wp2_with fail
          refine HI.out.mono ?_; rintro e w5 ⟨v5, rfl, j1, j2⟩
          have HP : Hid (KsP m l V xs w (.returned v5) w5) := by
            have k1 : Rk m l V w.heap.size [] w wl := (Rk.of_below HB1.out).call HB1.out.size HK4.out
            refine ⟨v5, rfl, ?_, k1.call k1.size (HRKW.out.then j2)⟩
            rw [HXS.out]
            obtain ⟨A9, c9, k2, k3, k4⟩ := j1
            exact ⟨A9, c9, k2, k3, k4.mono fun b _ hb => Nat.le_trans k1.size hb⟩
          obtain ⟨A9, c9, hv9, -⟩ := j1
          rw [List.length_reverse, List.length_map] at hv9
          subst hv9
          clear j2 HI
          go_wp2
          go_ret
          exact HP.out
        | succ k =>
          have hge : (((k + 1 : Nat) : Int) - 1) = (k : Int) := by omega
          rw [hge]
          clear hge
          have hkz : (k : Int) >= 0 := by omega
          have hkn : k < (memN l i).length := by rw [HN.out]; omega
          have hjm : (memN l i).getD k 0 ∈ memN l i := by rw [List.getD_eq_getElem?_getD, List.getElem?_eq_getElem hkn]; exact List.getElem_mem _
          have hji := HLT.out _ hjm
          have hjl : (memN l i).getD k 0 < l.length := by have := HFI.out.2; omega
          have hkk := HST.out.k.kc ⟨_, HRW.out.kept⟩
          obtain ⟨bm, om, hem, -⟩ := HST.out.mem.mem (k := k) hkn
          cases hem
          obtain ⟨g9, rfl, -, -⟩ := HST.out.row k (by omega)
          obtain ⟨A9, n9, hw9, hw9l, hw9r⟩ := HST.out.ls.at_ (k := k) (by omega)
          have hIs := HST.out.ls.2 k (by omega)
          rw [rwL_get (by rw [HN.out]; omega)] at hIs hw9
          rw [hw9] at hIs
          obtain ⟨hs1, hs2⟩ := rw_step HFI.out.1 hkn hjl h1 (by omega) H5.out
          have HCP := Lib.hid (fun (w' : World) (h : CrpS m l V W rb i fr t1 r1 tv L (some ⟨gm, 0, none⟩) (some ⟨g9, 0, none⟩) vs wl w') => cpart_any HFI.out.1 hjl (HE.out _ hji) (HRD.out _ hji) (HV.out _ hji) rb u W wl.heap.size wl.heap.size t1 r1 tv L (sV (((memN l i).take k).reverse.map (EN l)) W fr) (.slice A9 (plF (W.length + 1) (rwF l ((memN l i).take k) W fr)).length n9) wl w' HRW.out (Nat.le_refl _) h.k HWW.out hn h.k.size h.wk (by omega) h3 (by have := H4.out; rw [HN.out] at this; omega) (by
            obtain ⟨A, cc, e1, e2, e3⟩ := h.ls.2 k (by omega)
            rw [rwL_get (by rw [HN.out]; omega)] at e1 e2 e3
            rw [hw9] at e1
            exact ⟨A, cc, e1, e2, e3⟩) hs1)
          have HS2 := Lib.hid hs2
          have HCM : Hid (∀ w', CrpS m l V W rb i fr t1 r1 tv L (some ⟨gm, 0, none⟩) (some ⟨g9, 0, none⟩) vs wl w' -> w'.cell? ⟨gm, k, none⟩ = some (.int .i64 (((memN l i).getD k 0 : Nat) : Int)) /\ w'.cell? ⟨g9, k, none⟩ = some (.slice A9 (plF (W.length + 1) (rwF l ((memN l i).take k) W fr)).length n9)) := fun w' h => by
            obtain ⟨b, o, e1, e2⟩ := h.mem.mem (k := k) hkn
            cases e1
            obtain ⟨g, e3, -, e4⟩ := h.row k (by omega)
            cases e3
            rw [Nat.zero_add] at e2
            exact ⟨e2, by rw [e4, hw9]⟩
          have hkl : (k : Int) < (n : Int) := by omega
          clear hs1 hs2 hIs hw9 hw9l hw9r hjm hji hjl hkk hkn hvn
          generalize (memN l i).getD k 0 = j at *
          generalize hq9 : (plF (W.length + 1) (rwF l ((memN l i).take k) W fr)).length = q9 at HCP HCM
          clear hq9
          go_upto_region 13 with (fail)
          refine wp_region_stable_tail 9 (S := (CrpS m l V W rb i fr t1 r1 tv L (some ⟨gm, 0, none⟩) (some ⟨g9, 0, none⟩) vs wl)) (hSt := fun _ _ h hb => h.later hb) (plan := [[(16, none)], [(11, none)], [(17, none)], [(59, some 1), (60, some 2)], [(61, some 3)], [(13, none)], [(17, none)], [(63, some 5), (64, some 6)], [(65, some 7)]]) rfl rfl (by kernel_rfl) (by kernel_rfl) (by kernel_rfl) (by kernel_rfl) ?hS ?_
          rotate_left
          iterate 9 first
            | (refine chain_skip (by rfl) (by rfl) ?_)
            | (apply chain_want (by rfl)
               · intro act wx hS hr
                 simp at hr
                 obtain ⟨c1, c2⟩ := HCM.out _ hS
                 go_simp
                 (try go_ints)
                 first
                   | exact Done.same
              )
          show ∀ w', _ -> _
          intro wz hz
          simp [Act.put]
          case hS => exact HST.out
          have HCC := Lib.hid (HCP.out _ hz)
          have HZ := Lib.hid hz
          clear hz HCP HCM HST
          go_wp2_with fail
          refine HCC.out.mono ?_; rintro e w5 ⟨q, r, s, v, j1, j2, j3, j4, j5, tv', x, rfl, j6, j7, j8⟩
          obtain ⟨j9, ys', j10, j11⟩ := HS2.out q r s v j1 j3 j4 j5
          have HNX : Hid (CrpL m l V W rb i fr tt xs (some ⟨gm, 0, none⟩) (some ⟨g9, 0, none⟩) vs wl (.int .i64 ((k : Int) - 1)) w5) := by
            have hk5 := HZ.out.k.then j8
            have hkc := hk5.kc ⟨_, HRW.out.kept⟩
            exact ⟨k, q, r, tv', L ++ [x], ys', by rw [HN.out]; omega, rfl, j9, by omega, j2, by have := H4.out; simp; omega, j10, by rw [H6.out, j11, List.map_append, List.reverse_append]; simp [j6], ⟨hk5, j7, HMW.out.kc hkc, HRO.out.kc hkc, HLS.out.kc hkc⟩⟩
          clear j1 j2 j3 j4 j5 j6 j7 j8 j9 j10 j11 HS2 HCC HZ H4 H5 H6
          go_wp2
          go_roundw
          case rel => exact HNX.out
          case measure => simp [intOf]
end Go.Proofs.Ytpbbokdmoaadfaa
