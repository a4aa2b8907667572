/- Have states their form; where a state starts: walked. -/
import Derived.Test.YtidoofdofdhjpaaM21
import Derived.Test.YtidoofdofdhjpaaM08
import Derived.Test.YtidoofdofdhjpaaM03
import Derived.Test.YtidoofdofdhjpaaM18
import Derived.Test.YtidoofdofdhjpaaM07
namespace Go.Proofs.Ytidoofdofdhjpaa
open Go Go.RowKit
set_option linter.unusedVariables false
set_option linter.unusedSimpArgs false
set_option maxRecDepth 100000
set_option maxHeartbeats 16000000
end Go.Proofs.Ytidoofdofdhjpaa
namespace Go.Proofs.Ytidoofdofdhjpaa
open Go Go.RowKit
set_option linter.unusedVariables false
set_option linter.unusedSimpArgs false
theorem Blk.typed2 {w : World} {b c : Nat} {vs us : Array Value} {t u : TypeId} (h : Blk w b vs t) (k : Blk w c us u) (hne : t ≠ u) : b ≠ c := by
 intro e; subst e
 unfold Blk at h k
 rw [h] at k
 have := Option.some.inj k
 injection this with _ h2
 exact hne h2
theorem own_typed {w : World} {base size n : Nat} {e t : TypeId} {v : Value} {xs : List Value} (h : w.ownsRow base e size v n xs) {g : Nat} {vs : Array Value} (hg : Blk w g vs t) (hne : e ≠ t) : ∀ k, v.ownBlock = some k -> k ≠ g := by
 intro k hk
 obtain ⟨h0, ⟨hv, hn⟩ | ⟨g2, cap, cur, hv, hb, hg2, hr⟩⟩ := h
 ·rw [hv] at hk; cases hk
 ·rw [hv] at hk
  have : g2 = k := by simpa [Value.ownBlock] using hk
  subst this
  exact Blk.typed2 (w := w) (b := g2) (vs := cur) (t := e) hg2 hg hne
section
variable {w : World} {B pb : Nat} {A : Option Addr} {cp : Nat} {l : List Tk} {s : PS} {ov nv av : Value}
end
section
variable {a w w' : World} {B pb : Nat} {A : Option Addr} {cp : Nat} {l : List Tk} {s : PS} {ov nv av : Value}
end
theorem intsV_app (l m : List Int) : intsV (l ++ m) = intsV l ++ intsV m := by simp [intsV]
theorem IRow.news {w : World} {b o : Nat} {r : List Int} (h : IRow w (some ⟨b, o, none⟩) r) : ∀ (j : Nat) (u : Value), (intsV r)[j]? = some u -> w.cell? ((⟨b, o, none⟩ : Addr).add j) = some u := fun j u hu => by
 have hj : j < r.length := by
  have := (List.getElem?_eq_some_iff.1 hu).1
  rwa [intsV_length] at this
 obtain ⟨b', o', e1, -, e2⟩ := h j hj
 cases e1
 have e3 : (intsV r)[j]? = some (.int .i64 (r.getD j 0)) := by unfold intsV; simp [hj]
 rw [e3] at hu
 cases hu
 have hadd : (⟨b, o, none⟩ : Addr).add j = ⟨b, o + j, none⟩ := by unfold Addr.add; split <;> simp_all
 rw [hadd]; exact e2
theorem intsV_ones (r : List Int) : ∀ u ∈ intsV r, u.oneCell' = true := fun u hu => by
 obtain ⟨x, -, rfl⟩ := List.mem_map.1 hu
 rfl
structure IR (base : Nat) (L : List Int) (w w' : World) : Prop where
 out : base <= w.heap.size -> (Below base w w' /\ (∀ v n, OwnI w base v (L.take n) -> OwnI w' base v (L.take n)) /\ (∀ g vs, Blk w g vs 3 -> vs.size <= 1 -> Blk w' g vs 3) /\ (∀ g vs t, t ≠ 3 -> Blk w g vs t -> Blk w' g vs t))
theorem take_mix {L : List Int} {cur : List Value} {p q n : Nat} {r : List Int} (hpq : p + q <= L.length) (sz : p + q <= cur.length) (hu : cur.take (L.take n).length = intsV (L.take n)) (hr : (L.drop p).take q = r) :
 (cur.take p ++ intsV r ++ cur.drop (p + q)).take (L.take n).length = intsV (L.take n) := by
 apply List.ext_getElem?
 intro j
 have hj : (L.take n).length = min n L.length := List.length_take ..
 have lr : (intsV r).length = q := by rw [intsV_length, <- hr, List.length_take, List.length_drop]; omega
 have lp : (cur.take p).length = p := by rw [List.length_take]; omega
 have hu2 : ∀ i, i < (L.take n).length -> cur[i]? = (intsV (L.take n))[i]? := fun i hi => by
  rw [<- hu, List.getElem?_take, if_pos hi]
 rw [List.getElem?_take]
 by_cases h : j < (L.take n).length
 ·rw [if_pos h]
  rcases Nat.lt_or_ge j p with h1 | h1
  ·rw [List.append_assoc, List.getElem?_append_left (by omega), List.getElem?_take, if_pos h1]; exact hu2 j h
  ·rcases Nat.lt_or_ge j (p + q) with h2 | h2
   ·rw [List.append_assoc, List.getElem?_append_right (by omega), lp, List.getElem?_append_left (by omega), <- hr]
    unfold intsV
    rw [List.getElem?_map, List.getElem?_map, List.getElem?_take, if_pos (by omega), List.getElem?_drop, List.getElem?_take, if_pos (by omega), show p + (j - p) = j by omega]
   ·rw [List.getElem?_append_right (by rw [List.length_append, lp, lr]; exact h2), List.length_append, lp, lr, List.getElem?_drop, show p + q + (j - (p + q)) = j by omega]; exact hu2 j h
 ·rw [if_neg h, List.getElem?_eq_none (by rw [intsV_length]; omega)]
set_option maxRecDepth 100000 in
theorem wp_append_ints {w : World} {o : Oper} {a : Act} {K : Act -> World -> Prop} {Q : Exit -> Act -> World -> Prop} (s x : Operand)
 (ho : o.op = .call { callee := .builtin .append, args := #[s, x], argTypes := #[70, 70] })
 (base : Nat) (v : Value) (L : List Int) (p q : Nat) (hpq : p + q <= L.length) (hq : 0 < q) (h2q : 2 <= p + q \/ ∃ g, v = .slice (some ⟨g, 0, none⟩) 0 0) (hs : a.eval s = v) (hown : OwnI w base v (L.take p))
 (b oo c : Nat) (hx : a.eval x = .slice (some ⟨b, oo, none⟩) q c) (hr0 : IRow w (some ⟨b, oo, none⟩) ((L.drop p).take q)) (hlen : L.length < 536870912) (hbase : base <= w.heap.size)
 (h : ∀ v' w', OwnI w' base v' (L.take (p + q)) -> IR base L w w' -> K (a.put o.dst v') w') : o.wp Try.prog a w K Q := by
 obtain ⟨ib, hib, hz0, hz1, hz2⟩ := info_parts infoI
 obtain ⟨l, hl⟩ : ∃ l, L.take p = l := ⟨_, rfl⟩
 obtain ⟨r, hr⟩ : ∃ r, (L.drop p).take q = r := ⟨_, rfl⟩
 have hlr : L.take (p + q) = l ++ r := by rw [<- hl, <- hr, List.take_add]
 have ll : l.length = p := by rw [<- hl, List.length_take]; omega
 have lr : r.length = q := by rw [<- hr, List.length_take, List.length_drop]; omega
 rw [hl] at hown
 rw [hr] at hr0
 rw [hlr] at h
 have hown0 : w.ownsRow base 3 1 v l.length (intsV l) := hown
 obtain ⟨v', w', hrun, h2, h3, _⟩ := run_append_own (P := Try.prog) w base 70 o.type 3 ib _ 1 8 Try.underlying70 hib hz0 hz1 hz2 rfl (by decide) v l.length (intsV l) hown0 ⟨b, oo, none⟩ r.length c (intsV r) (by rw [intsV_length, Nat.mul_one]) hr0.news (intsV_ones r) (by unfold maxLen; omega) (by omega) hbase
 have h2' : OwnI w' base v' (l ++ r) := by unfold OwnI; rw [List.length_append, intsV_app]; exact h2
 have hbel : Below base w w' := (Below.refl base w).grown h3 hbase (fun k hk => (World.ownsRow.lt hown0 k hk).1)
 have hoth : ∀ g vs t, t ≠ 3 -> Blk w g vs t -> Blk w' g vs t := fun g vs t ht k => (h3.block g k.lt (fun e => own_typed hown0 k (Ne.symm ht) g e.symm rfl)).trans k
 have keep : (∀ u n, OwnI w base u (L.take n) -> OwnI w' base u (L.take n)) /\ (∀ g vs, Blk w g vs 3 -> vs.size <= 1 -> Blk w' g vs 3) := by
  rcases hown.2 with ⟨hv0, hn⟩ | ⟨g', cap, cur, hv0, hbg, hgg, hnc, hcm, hcs, htake⟩
  ·refine ⟨fun u n hu => World.ownsRow.kept hu h3 (by rw [hv0]; cases hh : u.ownBlock <;> simp [Value.ownBlock]), fun g vs hk _ => (h3.block g hk.lt (by rw [hv0]; simp [Value.ownBlock])).trans hk⟩
  ·by_cases hroom : l.length + r.length <= cap
   ·have hr2 := run_append_room (P := Try.prog) w 70 o.type 3 ib Try.underlying70 hib g' l.length cap cur hgg ⟨b, oo, none⟩ r.length c (intsV r) (by rw [hz1, intsV_length, Nat.mul_one]) hr0.news (intsV_ones r) hroom (by rw [hz1, hcs, Nat.mul_one, intsV_length]; omega)
    rw [<- hv0, hrun] at hr2
    simp only [Result.ok.injEq] at hr2
    have hv := hr2.1
    obtain ⟨q0, ⟨q1, _⟩ | ⟨g2, cap2, cur2, q1, q2, q3, q4, q5, q6, q7⟩⟩ := h2'
    ·rw [hv] at q1; cases q1
    ·rw [hv] at q1
     simp only [Value.slice.injEq, Option.some.injEq, Addr.mk.injEq, and_true] at q1
     obtain ⟨rfl, q8, rfl⟩ := q1
     refine ⟨fun u n hu => ?u1, fun g vs hk hsz => ?u3⟩
     case u1 =>
      by_cases hgu : u.ownBlock = some g'
      ·obtain ⟨u0, ⟨u1, _⟩ | ⟨g3, cap3, cur3, u1, u2, u3, u4, u5, u6, u7⟩⟩ := hu
       ·rw [u1] at hgu; cases hgu
       ·rw [u1] at hgu
        have e3 : g3 = g' := by simpa [Value.ownBlock] using hgu
        subst e3
        have e4 := u3.symm.trans hgg
        simp only [Option.some.injEq, Obj.cells.injEq, and_true] at e4
        have e5 : cap3 = cap := by rw [e4] at u6; omega
        refine ⟨u0, .inr ⟨g3, cap, cur2, by rw [u1, e5], hbg, q3, by omega, hcm, q6, ?_⟩⟩
        rw [Nat.mul_one] at u7 q7 htake ⊢
        have hcur : cur3 = cur := e4
        subst hcur
        have hc2 : cur2 = (cur3.toList.take (l.length * 1) ++ intsV r ++ cur3.toList.drop (l.length * 1 + (intsV r).length)).toArray := by
         have e := setRow_heap w g3 cur3 (cur3.toList.take (l.length * 1) ++ intsV r ++ cur3.toList.drop (l.length * 1 + (intsV r).length)).toArray 3 (0, 0) hgg
         have e6 := hr2.2
         rw [hz1] at e6
         rw [<- e6] at e
         have e7 := q3.symm.trans e
         simpa using e7
        rw [Nat.mul_one, intsV_length, ll, lr] at hc2
        have sz : p + q <= cur3.toList.length := by simp; omega
        rw [hc2, List.toList_toArray]
        exact take_mix hpq sz u7 hr
      ·exact World.ownsRow.kept hu h3 (by right; rw [hv0]; exact hgu)
     case u3 =>
      by_cases hgu : g = g'
      ·subst hgu
       have e4 := (show w.heap[g]? = _ from hk).symm.trans hgg
       simp only [Option.some.injEq, Obj.cells.injEq, and_true] at e4
       rw [e4, hcs] at hsz
       rcases h2q with h2q | ⟨g9, hv9⟩
       ·omega
       ·rw [hv0] at hv9
        injection hv9 with _ _ h9
        omega
      ·exact (h3.block g hk.lt (fun e => hgu (by rw [hv0] at e; simpa [Value.ownBlock] using e))).trans hk
   ·have holds := World.ownsRow.cells (w := w) (base := base) (e := 3) (size := 1) (v := v) (n := l.length) (xs := intsV l) hown0 (g := g') (by rw [hv0]; rfl)
    have hr2 := run_append_grow (P := Try.prog) w 70 o.type 3 ib _ Try.underlying70 hib hz0 ⟨g', 0, none⟩ l.length cap (intsV l) (by rw [hz1, intsV_length, Nat.mul_one]) holds ⟨b, oo, none⟩ r.length c (intsV r) (by rw [hz1, intsV_length, Nat.mul_one]) hr0.news (by omega) (by omega) (by rw [hz2]; exact growslice_fits (by omega) (by omega))
    rw [<- hv0, hrun] at hr2
    simp only [Result.ok.injEq] at hr2
    have hb : Below w.heap.size w w' := by rw [hr2.2]; exact ((Below.refl _ w).drew).alloc (Nat.le_refl _) _
    exact ⟨fun u n hu => hu.later hb, fun g vs hk _ => hk.later hb⟩
 unfold Oper.wp execOp
 simp only [ho, resolve, invoke, builtin, Sem.run_bind, Sem.run_pure, Result.andThen_ok, List.map_toArray, List.map_cons, List.map_nil, hs, hx]
 rw [<- lr, hrun]
 exact h v' w' h2' ⟨fun _ => ⟨hbel, keep.1, keep.2, hoth⟩⟩
theorem OwnI.empty {w : World} {base b : Nat} (h : Blk w b #[] 3) (hb : base <= b) (L : List Int) : OwnI w base (.slice (some ⟨b, 0, none⟩) 0 0) (L.take 0) := by
 rw [List.take_zero]
 exact ⟨rfl, .inr ⟨b, 0, #[], rfl, hb, h, Nat.le_refl _, by unfold maxLen; omega, rfl, rfl⟩⟩
set_option maxRecDepth 100000
set_option maxHeartbeats 16000000
theorem numL_length (s : List Itm) : (numL s).length = 1 + s.length * 4 := by unfold numL; rw [List.length_cons, itsL_length]; omega
theorem itsL_drop : ∀ {s : List Itm} {k : Nat}, k < s.length -> ((itsL s).drop (k * 4)).take 4 = itL (s.getD k it0)
 | [], k, h => by simp at h
 | x :: s, 0, _ => by
  show (List.drop 0 (itL x ++ itsL s)).take 4 = _
  rw [List.drop_zero, List.take_append_of_le_length (by show 4 <= 4; omega)]; rfl
 | x :: s, k + 1, h => by
  show (List.drop ((k + 1) * 4) (itL x ++ itsL s)).take 4 = _
  rw [show (k + 1) * 4 = (itL x).length + k * 4 from by show _ = 4 + _; omega, <- List.drop_drop, List.drop_left]
  exact itsL_drop (by simpa using h)
theorem numL_drop {s : List Itm} {k : Nat} (hk : k < s.length) : ((numL s).drop (1 + k * 4)).take 4 = itL (s.getD k it0) := by
 unfold numL
 rw [show 1 + k * 4 = k * 4 + 1 from by omega, List.drop_succ_cons]
 exact itsL_drop hk
theorem OwnI.one {w : World} {base g : Nat} {n : Int} (h : Blk w g #[.int .i64 n] 3) (hb : base <= g) : OwnI w base (.slice (some ⟨g, 0, none⟩) 1 1) [n] :=
 ⟨rfl, .inr ⟨g, 1, #[.int .i64 n], rfl, hb, h, Nat.le_refl _, by unfold maxLen; omega, rfl, rfl⟩⟩
theorem IRow.four {w : World} {g : Nat} {x : Itm} (h : Blk w g #[.int .i64 x.kind, .int .i64 x.node, .int .i64 x.lo, .int .i64 x.hi] 3) : IRow w (some ⟨g, 0, none⟩) (itL x) := fun i hi => by
 have hi : i < 4 := hi
 refine ⟨g, 0, rfl, h.lt, ?_⟩
 rw [h.cell]
 have : i = 0 \/ i = 1 \/ i = 2 \/ i = 3 := by omega
 rcases this with rfl | rfl | rfl | rfl <;> rfl
def New4 (x : Itm) (v : Value) (w : World) : Prop := ∃ b, v = .slice (some ⟨b, 0, none⟩) 4 4 /\ Blk w b #[.int .i64 x.kind, .int .i64 x.node, .int .i64 x.lo, .int .i64 x.hi] 3
theorem New4.later (x : Itm) (v : Value) (w w' : World) (h : New4 x v w) (hb : Below w.heap.size w w') : New4 x v w' := by
 obtain ⟨b, h1, h2⟩ := h
 exact ⟨b, h1, h2.later hb⟩
structure NmS (w0 : World) (A : Option Addr) (s : List Itm) (k : Nat) (v : Value) (w : World) : Prop where
 bel : Below w0.heap.size w0 w
 row : ItRow w A s
 own : OwnI w w0.heap.size v ((numL s).take (1 + k * 4))
theorem NmS.later {w0 w w' : World} {A : Option Addr} {s : List Itm} {k : Nat} {v : Value} (h : NmS w0 A s k v w) (hb : Below w.heap.size w w') : NmS w0 A s k v w' := ⟨h.bel.trans (hb.mono h.bel.size), h.row.later hb, h.own.later hb⟩
def NmL (w0 : World) (A : Option Addr) (s : List Itm) (v i : Value) (w : World) : Prop := ∃ k : Nat, k <= s.length /\ i = .int .i64 (k : Int) /\ NmS w0 A s k v w
def NmP (w0 : World) (s : List Itm) (e : Ending) (w : World) : Prop := ∃ v, e = .returned v /\ OwnI w w0.heap.size v (numL s) /\ Below w0.heap.size w0 w
theorem inums_any (s : List Itm) (A : Option Addr) (c : Nat) (hl : s.length <= 100000) (w : World) (hrow : ItRow w A s) :
 Calls Try.prog 37 #[.slice A s.length c] w (NmP w s) := by
 have HA : Hid (∀ b o, A = some ⟨b, o, none⟩ -> s ≠ [] -> b < w.heap.size) := fun b o e hne => by
  obtain ⟨b', o', e', h, -⟩ := hrow 0 (List.length_pos_iff.2 hne)
  rw [e] at e'; cases e'; exact h
 have hb1 := (Below.refl w.heap.size w).alloc (Nat.le_refl _) (.cells #[.int .i64 (s.length : Int)] 3)
 have HS0 : Hid (NmS w A s 0 (.slice (some ⟨w.heap.size, 0, none⟩) 1 1) (w.alloc (.cells #[.int .i64 (s.length : Int)] 3))) := ⟨hb1, hrow.later hb1, OwnI.one (Blk.new w _ _) (Nat.le_refl _)⟩
 clear hrow hb1
 go_enter Try.func37, Try.ntmps37
 go_wp2
 go_loopw [3, 4] (NmL w A s) (fun _ i _ => s.length - (intOf i).toNat)
 case atStart => exact ⟨0, Nat.zero_le _, rfl, HS0.out⟩
 case round =>
  obtain ⟨k, hk, rfl, hs⟩ := hrel
  have HS := Lib.hid hs
  have hln : ((numL s).take (1 + k * 4)).length = 1 + k * 4 := by rw [List.length_take, numL_length]; omega
  obtain ⟨av, cv, hvv, -⟩ := hs.own.row
  rw [hln] at hvv
  obtain ⟨kn, hkn⟩ : ∃ kn, 1 + k * 4 = kn := ⟨_, rfl⟩
  rw [hkn] at hvv
  subst hvv
  clear hln
  by_cases hlt : k < s.length
  ·have hltz : (k : Int) < (s.length : Int) := by omega
   obtain ⟨ba, oa, rfl, -, -⟩ := hs.row.four hlt
   have HAT := Lib.hid (fun (w' : World) (h : ItRow w' (some ⟨ba, oa, none⟩) s) => h.at hlt rfl)
   have HD := Lib.hid (numL_drop hlt)
   have HLT := Lib.hid hlt
   have HKN := Lib.hid hkn
   have HNL := Lib.hid (numL_length s)
   clear hs hlt hkn
   generalize s.getD k it0 = x at *
   unfold At4 at HAT
   go_upto_region 5 with (fail)
   refine wp_region_stable_tail 22 (S := (NmS w (some ⟨ba, oa, none⟩) s k (.slice av kn cv))) (hSt := fun _ _ h hb => h.later hb) (plan := [[(3, none)], [(0, none)], [(4, none)], [(15, some 1), (16, some 2)], [(17, some 3)], [(18, some 4)], [(0, none)], [(4, none)], [(20, some 6), (21, some 7)], [(22, some 8)], [(23, some 9)], [(0, none)], [(4, none)], [(25, some 11), (26, some 12)], [(27, some 13)], [(28, some 14)], [(0, none)], [(4, none)], [(30, some 16), (31, some 17)], [(32, some 18)], [(33, some 19)], [(19, some 5), (24, some 10), (29, some 15), (34, some 20)]]) rfl rfl (by kernel_rfl) (by kernel_rfl) (by kernel_rfl) (by kernel_rfl) ?hS ?_
   rotate_left
   iterate 21 first
    | (refine chain_skip (by rfl) (by rfl) ?_)
    | (apply chain_want (by rfl)
       ·intro act wx hS hr
        simp at hr
        obtain ⟨x0, x1, x2, x3⟩ := HAT.out _ hS.row
        go_simp
        (try go_ints)
        first
         | exact Done.same
      )
   (refine chain_rel (New4 x) (New4.later x) (by rfl) ?_ ?_
    ·intro act wx hS hr
     simp at hr
     obtain ⟨x0, x1, x2, x3⟩ := HAT.out _ hS.row
     all_goals go_simp
     exact Done.rel ((Below.refl _ _).alloc (Nat.le_refl _) _) ⟨_, rfl, Blk.new _ _ _⟩
   )
   show ∀ w', _ -> _
   intro wz hz
   simp [Act.put]
   case hS => exact HS.out
   intro v21 hv21
   obtain ⟨b4, rfl, hk4⟩ := hv21
   have HZ := Lib.hid hz
   have HX3 : Hid (IRow wz (some ⟨b4, 0, none⟩) (((numL s).drop (1 + k * 4)).take 4)) := by unfold Hid; rw [HD.out]; exact IRow.four hk4
   clear hz HS HS0 hk4
   have HP : Hid (1 + k * 4 + 4 <= (numL s).length) := by unfold Hid; rw [HNL.out]; have := HLT.out; omega
   have HL5 : Hid ((numL s).length < 536870912) := by unfold Hid; rw [HNL.out]; omega
   refine wpList_plain rfl fun K hK => ?_
   refine wp_append_ints (.tmp 14) (.tmp 35) rfl w.heap.size _ (numL s) (1 + k * 4) 4 HP.out (by omega) (.inl (by omega)) rfl HZ.out.own b4 0 4 rfl HX3.out HL5.out HZ.out.bel.size ?_
   intro v' w6 h1 h2
   have HO6 := Lib.hid h1
   have HB6 := Lib.hid (h2.out HZ.out.bel.size).1
   refine hK _ _ ?_
   clear h1 h2 hK K
   simp [Act.put]
   go_simp
   have HS6 : Hid (NmS w (some ⟨ba, oa, none⟩) s (k + 1) v' w6) := ⟨HZ.out.bel.trans HB6.out, HZ.out.row.below (fun b o e => HA.out b o e (fun h => by have := HLT.out; rw [h] at this; simp at this)) HB6.out, by have := HO6.out; rwa [show 1 + k * 4 + 4 = 1 + (k + 1) * 4 by omega] at this⟩
   go_wp2
   go_roundw
   case rel => exact ⟨k + 1, HLT.out, by go_num, HS6.out⟩
   case measure => have := HLT.out; simp [intOf] <;> omega
  ·obtain rfl : k = s.length := by omega
   have hltz : ¬ ((s.length : Nat) : Int) < (s.length : Int) := by omega
   have HO : Hid (OwnI wr w.heap.size (.slice av kn cv) (numL s)) := by have := hs.own; rwa [List.take_of_length_le (by rw [numL_length]; omega)] at this
   clear hs hkn
   go_wp2
   go_ret
   exact ⟨_, rfl, HO.out, HS.out.bel⟩
theorem lexC_at {x y : List Int} {k : Nat} (h : x.take k = y.take k) (hx : k < x.length) (hy : k < y.length) : lexC x y = if x.getD k 0 < y.getD k 0 then -1 else if y.getD k 0 < x.getD k 0 then 1 else lexC (x.drop (k + 1)) (y.drop (k + 1)) := by
 have h1 : ∀ (l : List Int), k < l.length -> l = l.take k ++ (l.getD k 0 :: l.drop (k + 1)) := fun l hl => by
  have := (List.take_append_drop k l).symm
  rw [List.drop_eq_getElem_cons hl] at this
  rw [List.getD_eq_getElem?_getD, List.getElem?_eq_getElem hl]; exact this
 have ha := h1 x hx
 have hb := h1 y hy
 generalize x.getD k 0 = a at *
 generalize y.getD k 0 = b at *
 rw [show lexC x y = lexC (x.take k ++ (a :: x.drop (k + 1))) (y.take k ++ (b :: y.drop (k + 1))) by rw [<- ha, <- hb], h, lexC_app _ _ _ _ rfl, lexC_self, if_pos rfl, lexC_cons]
theorem lexC_end {x y : List Int} {k : Nat} (h : x.take k = y.take k) (hk : x.length <= k \/ y.length <= k) : lexC x y = 0 := by
 have e : ∀ u v : List Int, lexC u (u ++ v) = 0 := fun u v => by
  have := lexC_app u u [] v rfl
  rw [List.append_nil, lexC_self, if_pos rfl, lexC_nil] at this; exact this
 rcases hk with hk | hk
 ·rw [List.take_of_length_le hk] at h
  have h2 := List.take_append_drop k y
  rw [<- h] at h2
  rw [<- h2]; exact e _ _
 ·rw [List.take_of_length_le hk] at h
  have h2 := List.take_append_drop k x
  rw [h] at h2
  rw [lexC_neg, <- h2, e]; rfl
theorem take_int {l : List Int} {k : Nat} (hk : k < l.length) : l.take (k + 1) = l.take k ++ [l.getD k 0] := by
 rw [List.take_succ_eq_append_getElem hk, List.getD_eq_getElem?_getD, List.getElem?_eq_getElem hk]; rfl
structure RcI (w0 : World) (A B : Option Addr) (x y : List Int) (w : World) : Prop where
 bel : Below w0.heap.size w0 w
 ra : IRow w A x
 rb : IRow w B y
theorem RcI.later {w0 w w' : World} {A B : Option Addr} {x y : List Int} (h : RcI w0 A B x y w) (hb : Below w.heap.size w w') : RcI w0 A B x y w' := ⟨h.bel.trans (hb.mono h.bel.size), h.ra.later hb, h.rb.later hb⟩
def RcIL (w0 : World) (A B : Option Addr) (x y : List Int) (i : Value) (w : World) : Prop := ∃ k : Nat, k <= x.length /\ k <= y.length /\ i = .int .i64 (k : Int) /\ x.take k = y.take k /\ RcI w0 A B x y w
theorem IRow.at_ {w : World} {A : Option Addr} {x : List Int} (h : IRow w A x) {k : Nat} (hk : k < x.length) {b o : Nat} (hA : A = some ⟨b, o, none⟩) : w.cell? ⟨b, o + k, none⟩ = some (.int .i64 (x.getD k 0)) := by
 obtain ⟨b', o', e, -, hc⟩ := h k hk
 rw [hA] at e; cases e; exact hc
theorem rstcmp_any (a b : List Itm) (A B : Option Addr) (c1 c2 : Nat) (w : World) (ha : ItRow w A a) (hb : ItRow w B b) (h1 : a.length <= 100000) (h2 : b.length <= 100000) :
 Calls Try.prog 16 #[.slice A a.length c1, .slice B b.length c2] w (Ans w (.int .i64 (stC a b))) := by
 have HC1 := Lib.hid (inums_any a A c1 h1 w ha)
 have HB := Lib.hid hb
 have HX := Lib.hid (numL_length a)
 have HY := Lib.hid (numL_length b)
 obtain ⟨v, hv⟩ : ∃ v, stC a b = v := ⟨_, rfl⟩
 have HV := Lib.hid hv
 rw [hv]
 clear ha hb hv
 go_enter Try.func16, Try.ntmps16
 go_wp2_with fail
 refine HC1.out.mono ?_; rintro e w1 ⟨v1, rfl, ho1, hb1⟩
 obtain ⟨ax, cx, rfl, hrx⟩ := ho1.row
 have HC2 := Lib.hid (inums_any b B c2 h2 w1 (HB.out.later hb1))
 have HRX := Lib.hid hrx
 have HB1 := Lib.hid hb1
 clear ho1 hb1 hrx HC1 HB
 go_wp2_with fail
 refine HC2.out.mono ?_; rintro e w2 ⟨v2, rfl, ho2, hb2⟩
 obtain ⟨ay, cy, rfl, hry⟩ := ho2.row
 have HS0 : Hid (RcI w ax ay (numL a) (numL b) w2) := ⟨HB1.out.trans (hb2.mono HB1.out.size), HRX.out.later hb2, hry⟩
 clear ho2 hb2 hry HC2 HRX HB1
 have HV2 : Hid (lexC (numL a) (numL b) = v) := HV.out
 have hx1 : (numL a).length <= 400001 := by rw [HX.out]; omega
 have hy1 : (numL b).length <= 400001 := by rw [HY.out]; omega
 clear HX HY HV
 generalize numL a = x at *
 generalize numL b = y at *
 go_wp2
 go_loopw [7] (RcIL w ax ay x y) (fun i _ => x.length - (intOf i).toNat)
 case atStart => exact ⟨0, Nat.zero_le _, Nat.zero_le _, rfl, rfl, HS0.out⟩
 case round =>
  obtain ⟨k, hk, hk2, rfl, ht, hs⟩ := hrel
  have HS := Lib.hid hs
  by_cases hlt : k < x.length
  ·have hltz : (k : Int) < (x.length : Int) := by omega
   by_cases hlb : k < y.length
   ·have hlbz : (k : Int) < (y.length : Int) := by omega
    obtain ⟨bx, ox, rfl, -, -⟩ := hs.ra k hlt
    obtain ⟨bz, oy, rfl, -, -⟩ := hs.rb k hlb
    have HYA := Lib.hid (fun (w' : World) (h : IRow w' (some ⟨bx, ox, none⟩) x) => h.at_ hlt rfl)
    have HYB := Lib.hid (fun (w' : World) (h : IRow w' (some ⟨bz, oy, none⟩) y) => h.at_ hlb rfl)
    have HT := Lib.hid (lexC_at ht hlt hlb)
    have HN : Hid (x.getD k 0 = y.getD k 0 -> x.take (k + 1) = y.take (k + 1)) := fun e => by rw [take_int hlt, take_int hlb, ht, e]
    have HLT := Lib.hid (And.intro hlt hlb)
    clear hs ht hlt hlb
    generalize x.getD k 0 = p at *
    generalize y.getD k 0 = q at *
    go_upto_region 6 with (fail)
    rcases Int.lt_trichotomy p q with h | h | h
    ·have HR : Hid (v = -1) := by unfold Hid; rw [<- HV2.out, HT.out, if_pos h]
     refine wp_region_stable (S := (RcI w (some ⟨bx, ox, none⟩) (some ⟨bz, oy, none⟩) x y)) (hSt := fun _ _ h hb => h.later hb) (plan := [[(5, none)], [(7, none)], [(24, some 0), (25, some 1)], [(26, some 2)], [(6, none)], [(7, none)], [(28, some 4), (29, some 5)], [(30, some 6)], [(27, some 3), (31, some 7)]]) (by kernel_rfl) (by kernel_rfl) (by kernel_rfl) ?hS ?_
     rotate_left
     iterate 9 first
      | (refine chain_skip (by rfl) (by rfl) ?_)
      | (apply chain_want (by rfl)
         ·intro act wx hS hr
          simp at hr
          have y0 := HYA.out _ hS.ra
          have y1 := HYB.out _ hS.rb
          go_simp
          (try go_ints)
          first
           | exact Done.same
        )
     show ∀ w', _ -> _
     intro wz hz
     simp [Act.put]
     case hS => exact HS.out
     have HZ := Lib.hid hz
     clear hz HS
     go_wp2
     go_ret
     exact ⟨by rw [HR.out]; rfl, HZ.out.bel⟩
    ·subst h
     have hpp : ¬ p < p := by omega
     have hpp2 : ¬ p > p := by omega
     have HN2 := Lib.hid (HN.out rfl)
     refine wp_region_stable (S := (RcI w (some ⟨bx, ox, none⟩) (some ⟨bz, oy, none⟩) x y)) (hSt := fun _ _ h hb => h.later hb) (plan := [[(5, none)], [(7, none)], [(24, some 0), (25, some 1)], [(26, some 2)], [(6, none)], [(7, none)], [(28, some 4), (29, some 5)], [(30, some 6)], [(27, some 3), (31, some 7)]]) (by kernel_rfl) (by kernel_rfl) (by kernel_rfl) ?hS ?_
     rotate_left
     iterate 9 first
      | (refine chain_skip (by rfl) (by rfl) ?_)
      | (apply chain_want (by rfl)
         ·intro act wx hS hr
          simp at hr
          have y0 := HYA.out _ hS.ra
          have y1 := HYB.out _ hS.rb
          go_simp
          (try go_ints)
          first
           | exact Done.same
        )
     show ∀ w', _ -> _
     intro wz hz
     simp [Act.put]
     case hS => exact HS.out
     have HZ := Lib.hid hz
     clear hz HS
     go_upto_region 8 with (fail)
     refine wp_region_stable (S := (RcI w (some ⟨bx, ox, none⟩) (some ⟨bz, oy, none⟩) x y)) (hSt := fun _ _ h hb => h.later hb) (plan := [[(5, none)], [(7, none)], [(33, some 0), (34, some 1)], [(35, some 2)], [(6, none)], [(7, none)], [(37, some 4), (38, some 5)], [(39, some 6)], [(36, some 3), (40, some 7)]]) (by kernel_rfl) (by kernel_rfl) (by kernel_rfl) ?hS ?_
     rotate_left
     iterate 9 first
      | (refine chain_skip (by rfl) (by rfl) ?_)
      | (apply chain_want (by rfl)
         ·intro act wx hS hr
          simp at hr
          have y0 := HYA.out _ hS.ra
          have y1 := HYB.out _ hS.rb
          go_simp
          (try go_ints)
          first
           | exact Done.same
        )
     show ∀ w', _ -> _
     intro wy hy
     simp [Act.put]
     case hS => exact HZ.out
     have HZ2 := Lib.hid hy
     clear hy HZ
     go_wp2
     go_roundw
     case rel => exact ⟨k + 1, HLT.out.1, HLT.out.2, by go_num, HN2.out, HZ2.out⟩
     case measure => have := HLT.out.1; simp [intOf] <;> omega
    ·have HR : Hid (v = 1) := by unfold Hid; rw [<- HV2.out, HT.out, if_neg (by omega), if_pos h]
     have hpp : ¬ p < q := by omega
     have hpp2 : p > q := h
     refine wp_region_stable (S := (RcI w (some ⟨bx, ox, none⟩) (some ⟨bz, oy, none⟩) x y)) (hSt := fun _ _ h hb => h.later hb) (plan := [[(5, none)], [(7, none)], [(24, some 0), (25, some 1)], [(26, some 2)], [(6, none)], [(7, none)], [(28, some 4), (29, some 5)], [(30, some 6)], [(27, some 3), (31, some 7)]]) (by kernel_rfl) (by kernel_rfl) (by kernel_rfl) ?hS ?_
     rotate_left
     iterate 9 first
      | (refine chain_skip (by rfl) (by rfl) ?_)
      | (apply chain_want (by rfl)
         ·intro act wx hS hr
          simp at hr
          have y0 := HYA.out _ hS.ra
          have y1 := HYB.out _ hS.rb
          go_simp
          (try go_ints)
          first
           | exact Done.same
        )
     show ∀ w', _ -> _
     intro wz hz
     simp [Act.put]
     case hS => exact HS.out
     have HZ := Lib.hid hz
     clear hz HS
     go_upto_region 8 with (fail)
     refine wp_region_stable (S := (RcI w (some ⟨bx, ox, none⟩) (some ⟨bz, oy, none⟩) x y)) (hSt := fun _ _ h hb => h.later hb) (plan := [[(5, none)], [(7, none)], [(33, some 0), (34, some 1)], [(35, some 2)], [(6, none)], [(7, none)], [(37, some 4), (38, some 5)], [(39, some 6)], [(36, some 3), (40, some 7)]]) (by kernel_rfl) (by kernel_rfl) (by kernel_rfl) ?hS ?_
     rotate_left
     iterate 9 first
      | (refine chain_skip (by rfl) (by rfl) ?_)
      | (apply chain_want (by rfl)
         ·intro act wx hS hr
          simp at hr
          have y0 := HYA.out _ hS.ra
          have y1 := HYB.out _ hS.rb
          go_simp
          (try go_ints)
          first
           | exact Done.same
        )
     show ∀ w', _ -> _
     intro wy hy
     simp [Act.put]
     case hS => exact HZ.out
     have HZ2 := Lib.hid hy
     clear hy HZ
     go_wp2
     go_ret
     exact ⟨by rw [HR.out]; rfl, HZ2.out.bel⟩
   ·have hlbz : ¬ (k : Int) < (y.length : Int) := by omega
    have HR : Hid (v = 0) := by unfold Hid; rw [<- HV2.out]; exact lexC_end ht (.inr (by omega))
    clear hs ht
    go_wp2
    go_ret
    exact ⟨by rw [HR.out]; rfl, HS.out.bel⟩
  ·have hltz : ¬ (k : Int) < (x.length : Int) := by omega
   have HR : Hid (v = 0) := by unfold Hid; rw [<- HV2.out]; exact lexC_end ht (.inl (by omega))
   clear hs ht
   go_wp2
   go_ret
   exact ⟨by rw [HR.out]; rfl, HS.out.bel⟩
end Go.Proofs.Ytidoofdofdhjpaa
