/- The anchor of layer 13: walked. -/
import Derived.Test.YtidoofdofdhjpaaM22
import Derived.Test.YtidoofdofdhjpaaM18
import Derived.Test.YtidoofdofdhjpaaM14
import Derived.Laws.CopyRow
namespace Go.Proofs.Ytidoofdofdhjpaa
open Go Go.RowKit
set_option linter.unusedVariables false
set_option linter.unusedSimpArgs false
set_option maxRecDepth 100000
set_option maxHeartbeats 16000000
end Go.Proofs.Ytidoofdofdhjpaa
namespace Go.Proofs.Ytidoofdofdhjpaa
open Go Go.RowKit
set_option linter.unusedVariables false
set_option linter.unusedSimpArgs false
theorem OwnIt.blk {w : World} {B : Nat} {v : Value} {l : List Itm} (h : OwnIt w B v l) (hl : 0 < l.length) : ∃ g cap cur, v = .slice (some ⟨g, 0, none⟩) l.length cap /\ B <= g /\ Blk w g cur 44 /\ l.length <= cap /\ cap <= maxLen /\ cur.size = cap * 4 /\ cur.toList.take (l.length * 4) = flatIt l := by
 obtain ⟨hx, h2⟩ := h
 rcases h2 with ⟨-, h2⟩ | ⟨g, cap, cur, h3, h4, h5, h6, h7, h8, h9⟩
 ·omega
 ·exact ⟨g, cap, cur, h3, h4, h5, h6, h7, h8, h9⟩
theorem ItRow.tl {w : World} {b o : Nat} {a : Itm} {r : List Itm} (h : ItRow w (some ⟨b, o, none⟩) (a :: r)) : ItRow w (some ⟨b, o + 4, none⟩) r := fun i hi => by
 obtain ⟨b', o', e, h2, h3⟩ := h (i + 1) (by simpa using hi)
 cases e
 refine ⟨b, o + 4, rfl, h2, fun j hj => ?_⟩
 have := h3 j hj
 rw [show o + 4 + i * 4 + j = o + (i + 1) * 4 + j by omega, this]; rfl
theorem OwnIt.rowAt {w : World} {B g n cap : Nat} {l : List Itm} (h : OwnIt w B (.slice (some ⟨g, 0, none⟩) n cap) l) : ItRow w (some ⟨g, 0, none⟩) l := by
 obtain ⟨a, c, e, -, hr⟩ := h.row
 cases e; exact hr
theorem itm_one (t : Itm) : ∀ u ∈ flatIt [t], u.oneCell' = true := flatIt_ones [t]
theorem itm_news {w : World} {b : Nat} {t : Itm} (hnew : Blk w b (itV t) 44) : ∀ (j : Nat) (u : Value), (flatIt [t])[j]? = some u -> w.cell? ((⟨b, 0, none⟩ : Addr).add j) = some u := by
 intro j u hu
 have hadd : (⟨b, 0, none⟩ : Addr).add j = ⟨b, j, none⟩ := by unfold Addr.add; split <;> simp_all
 have hf1 : flatIt [t] = (itV t).toList := by simp [flatIt]
 rw [hf1] at hu
 rw [hadd, hnew.cell, <- hu]; simp
set_option maxRecDepth 100000 in
theorem wp_append_it2 {w : World} {o : Oper} {a : Act} {K : Act -> World -> Prop} {Q : Exit -> Act -> World -> Prop} (s x : Operand)
 (ho : o.op = .call { callee := .builtin .append, args := #[s, x], argTypes := #[25, 25] })
 (base : Nat) (v : Value) (l : List Itm) (hs : a.eval s = v) (hown : OwnIt w base v l)
 (b : Nat) (t : Itm) (hx : a.eval x = .slice (some ⟨b, 0, none⟩) 1 1) (hnew : Blk w b (itV t) 44) (hlen : l.length < 1073741824) (hbase : base <= w.heap.size)
 (h : ∀ v' w', OwnIt w' base v' (l ++ [t]) -> w.grownBy w' v.ownBlock -> (v'.ownBlock = v.ownBlock \/ ∃ g', v'.ownBlock = some g' /\ w.heap.size <= g') -> OwnIt w' base v l -> (∀ u, OwnIt w base u (l ++ [t]) -> OwnIt w' base u (l ++ [t])) -> K (a.put o.dst v') w') : o.wp Try.prog a w K Q := by
 obtain ⟨ib, hib, hz0, hz1, hz2⟩ := info_parts infoIt
 have hnews := itm_news hnew
 have hone := itm_one t
 obtain ⟨v', w', hr, h2, h3, _⟩ := run_append_own (P := Try.prog) w base 25 o.type 44 ib _ 4 32 Try.underlying25 hib hz0 hz1 hz2 rfl (by decide) v l.length (flatIt l) hown ⟨b, 0, none⟩ 1 1 (flatIt [t]) rfl hnews hone (by unfold maxLen; omega) (by omega) hbase
 have h2' : OwnIt w' base v' (l ++ [t]) := by unfold OwnIt; rw [List.length_append, flatIt_append]; exact h2
 have place : (v'.ownBlock = v.ownBlock \/ ∃ g', v'.ownBlock = some g' /\ w.heap.size <= g') /\ OwnIt w' base v l /\ (∀ u, OwnIt w base u (l ++ [t]) -> OwnIt w' base u (l ++ [t])) := by
  rcases hown.2 with ⟨rfl, hn⟩ | ⟨g', cap, cur, rfl, hbg, hgg, hnc, hcm, hcs, htake⟩
  ·have hl0 : l = [] := List.length_eq_zero_iff.1 hn
   subst hl0
   obtain ⟨v2, w2, hr2, h4, _, _⟩ := run_append_own (P := Try.prog) w w.heap.size 25 o.type 44 ib _ 4 32 Try.underlying25 hib hz0 hz1 hz2 rfl (by decide) (.slice none 0 0) 0 [] ⟨rfl, .inl ⟨rfl, rfl⟩⟩ ⟨b, 0, none⟩ 1 1 (flatIt [t]) rfl hnews hone (by unfold maxLen; omega) (by omega) (Nat.le_refl _)
   rw [hr] at hr2
   simp only [Result.ok.injEq] at hr2
   obtain ⟨rfl, rfl⟩ := hr2
   refine ⟨?_, OwnIt.nil0 _ _, fun u hu => World.ownsRow.kept hu h3 (by cases hh : u.ownBlock <;> simp [Value.ownBlock])⟩
   rcases h4.2 with ⟨_, h5⟩ | ⟨g2, cap2, cur2, hv, hb2, _⟩
   ·omega
   ·exact .inr ⟨g2, by rw [hv]; rfl, hb2⟩
  ·by_cases hroom : l.length + 1 <= cap
   ·have hr2 := run_append_room (P := Try.prog) w 25 o.type 44 ib Try.underlying25 hib g' l.length cap cur hgg ⟨b, 0, none⟩ 1 1 (flatIt [t]) (by rw [hz1]; rfl) hnews hone hroom (by rw [hz1, hcs]; simp [flatIt_length]; omega)
    rw [hr] at hr2
    simp only [Result.ok.injEq] at hr2
    refine ⟨.inl (by rw [hr2.1]; rfl), ?_⟩
    have hv := hr2.1
    have hown2 := h2'
    obtain ⟨q0, ⟨q1, _⟩ | ⟨g2, cap2, cur2, q1, q2, q3, q4, q5, q6, q7⟩⟩ := h2'
    ·rw [hv] at q1; cases q1
    ·rw [hv] at q1
     simp only [Value.slice.injEq, Option.some.injEq, Addr.mk.injEq, and_true] at q1
     obtain ⟨rfl, q8, rfl⟩ := q1
     refine ⟨⟨by rw [flatIt_length], .inr ⟨g', cap, cur2, rfl, hbg, q3, hnc, hcm, q6, ?_⟩⟩, fun u hu => ?_⟩
     case refine_2 =>
      by_cases hgu : u.ownBlock = some g'
      ·obtain ⟨u0, ⟨u1, _⟩ | ⟨g3, cap3, cur3, u1, u2, u3, u4, u5, u6, u7⟩⟩ := hu
       ·rw [u1] at hgu; cases hgu
       ·rw [u1] at hgu
        have e3 : g3 = g' := by simpa [Value.ownBlock] using hgu
        subst e3
        have e4 := u3.symm.trans hgg
        simp only [Option.some.injEq, Obj.cells.injEq, and_true] at e4
        have e5 : cap3 = cap := by rw [e4] at u6; omega
        rw [u1, e5, <- q8, <- hv]; exact hown2
      ·exact World.ownsRow.kept hu h3 (by right; exact hgu)
     have e : cur2.toList.take (l.length * 4) = (cur2.toList.take ((l ++ [t]).length * 4)).take (l.length * 4) := by rw [List.take_take]; congr 1; simp
     rw [e, q7, flatIt_append]
     rw [List.take_append_of_le_length (by rw [flatIt_length]; omega), <- flatIt_length, List.take_length]
   ·have holds := World.ownsRow.cells (w := w) (base := base) (e := 44) (size := 4) (v := .slice (some ⟨g', 0, none⟩) l.length cap) (n := l.length) (xs := flatIt l) hown (g := g') rfl
    have hr2 := run_append_grow (P := Try.prog) w 25 o.type 44 ib _ Try.underlying25 hib hz0 ⟨g', 0, none⟩ l.length cap (flatIt l) (by rw [hz1]; exact flatIt_length l) holds ⟨b, 0, none⟩ 1 1 (flatIt [t]) (by rw [hz1]; rfl) hnews (by omega) (by omega) (by rw [hz2]; exact growslice_fits (by omega) (by omega))
    rw [hr] at hr2
    simp only [Result.ok.injEq] at hr2
    refine ⟨.inr ⟨w.heap.size, by rw [hr2.1]; rfl, Nat.le_refl _⟩, ?_⟩
    have hb : Below w.heap.size w w' := by rw [hr2.2]; exact ((Below.refl _ w).drew).alloc (Nat.le_refl _) _
    exact ⟨hown.later hb, fun u hu => hu.later hb⟩
 unfold Oper.wp execOp
 simp only [ho, resolve, invoke, builtin, Sem.run_bind, Sem.run_pure, Result.andThen_ok, List.map_toArray, List.map_cons, List.map_nil, hs, hx, hr]
 exact h v' w' h2' h3 place.1 place.2.1 place.2.2
set_option maxRecDepth 100000
set_option maxHeartbeats 16000000
theorem hdNode_any (l : List Nd) (A : Option Addr) (c : Nat) (x : Itm) (i : Nat) (hi : i < l.length) (hx : x.node = (i : Int)) (hlen : l.length <= 1073741824) (w : World) (hrow : NRow w A l) :
 Calls Try.prog 85 #[.agg #[.slice A l.length c], .agg (itV x)] w (Ans w (.agg (ndC (atN l i)))) := by
 obtain ⟨kk, nn, lo, hi'⟩ := x
 simp only at hx
 subst hx
 have HS := Lib.hid (HfS.new c ⟨kk, (i : Int), lo, hi'⟩ hrow)
 clear hrow
 go_enter Try.func85, Try.ntmps85
 go_upto_region 1 with (fail)
 unfold itV at HS ⊢
 simp only at HS ⊢
 have hsz : ((w.alloc (.cells #[.slice A l.length c] 24)).alloc (.cells #[.int .i64 kk, .int .i64 (i : Int), .int .i64 lo, .int .i64 hi'] 44)).heap.size = w.heap.size + 1 + 1 := by rw [World.size_alloc, World.size_alloc]
 generalize (w.alloc (.cells #[.slice A l.length c] 24)).alloc (.cells #[.int .i64 kk, .int .i64 (i : Int), .int .i64 lo, .int .i64 hi'] 44) = w1 at HS hsz ⊢
 have hb3 := (Below.refl w1.heap.size w1).alloc (Nat.le_refl _) (.cells z10 58)
 have HS3 := Lib.hid (HS.out.later hb3)
 have HN := Lib.hid (Blk.new' hsz.symm z10 58)
 clear hb3 HS hsz
 have ez : #[Value.int .i64 0, .int .i64 0, .int .i64 0, .int .i64 0, .int .i64 0, .int .u64 0, .int .u64 0, .int .u64 0, .int .u64 0, .string { data := #[] }] = z10 := rfl
 rw [ez]
 generalize w1.alloc (.cells z10 58) = w3 at HS3 HN ⊢
 obtain ⟨ba, oa, rfl, -, -⟩ := HS3.out.s.row i hi
 have g : At10 w3 ba (oa + i * 10) (atN l i) := HS3.out.s.row.at hi rfl
 generalize atN l i = n at *
 obtain ⟨nk, na, nb, nlo, nhi, ncls, ntext⟩ := n
 unfold At10 at g
 simp only at g
 obtain ⟨g0, g1, g2, g3, g4, g5, g6, g7, g8, g9⟩ := g
 have x1 := HS3.out.it.cell 1
 have e0 := HS3.out.s.box.cell 0
 simp [itV] at x1 e0
 have HB := Lib.hid HS3.out.s.bel
 have hilz : (i : Int) < (l.length : Int) := by omega
 have hilz2 : ¬ (i : Int) >= (l.length : Int) := by omega
 have hin0 : ¬ (i : Int) < 0 := by omega
 have f0 := HN.out.frozen 0
 have f1 := HN.out.frozen 1
 have f2 := HN.out.frozen 2
 have f3 := HN.out.frozen 3
 have f4 := HN.out.frozen 4
 have f5 := HN.out.frozen 5
 have f6 := HN.out.frozen 6
 have f7 := HN.out.frozen 7
 have f8 := HN.out.frozen 8
 have f9 := HN.out.frozen 9
 have c0 := HN.out.cell 0
 have c1 := HN.out.cell 1
 have c2 := HN.out.cell 2
 have c3 := HN.out.cell 3
 have c4 := HN.out.cell 4
 have c5 := HN.out.cell 5
 have c6 := HN.out.cell 6
 have c7 := HN.out.cell 7
 have c8 := HN.out.cell 8
 have c9 := HN.out.cell 9
 simp [z10] at c0 c1 c2 c3 c4 c5 c6 c7 c8 c9
 go_wp2
 refine bodyPost_ret (v := .agg (ndC ⟨nk, na, nb, nlo, nhi, ncls, ntext⟩)) ?_ rfl ⟨rfl, ?_⟩
 ·simp [results, Try.results85, go_sem]
  go_simp
  try rfl
 ·have hg : w.heap.size <= w.heap.size + 1 + 1 := by omega
  repeat' (refine Below.setCell (p := ⟨w.heap.size + 1 + 1, _, none⟩) ?_ hg _)
  exact HB.out
theorem field_nd0 (k a b lo hi : Int) (c0 c1 c2 c3 : Int) (t : ByteArray) (w : World) : (Instr.field 58 (.agg #[.int .i64 k, .int .i64 a, .int .i64 b, .int .i64 lo, .int .i64 hi, .int .u64 c0, .int .u64 c1, .int .u64 c2, .int .u64 c3, .string t]) 0).run Try.prog w = .ok (.int .i64 k) w := by kernel_rfl
theorem rdy_k1 {l : List Nd} {i : Nat} {lo hi : Int} : rdyS l [⟨1, (i : Int), lo, hi⟩] = ((atN l i).kind == 2 || (atN l i).kind == 8 || (atN l i).kind == 9) := by
 unfold rdyS
 rw [Bool.eq_iff_iff]
 simp
theorem HdF.inl {l : List Nd} (h0 : 0 < l.length) {x : Itm} (hx : HdF l x) : ∃ i : Nat, i < l.length /\ x.node = (i : Int) := by
 by_cases h5 : x.kind = 5
 ·exact ⟨0, h0, (hx.stop h5).1⟩
 ·obtain ⟨n0, n1⟩ := hx.node h5
  exact ⟨x.node.toNat, by omega, by omega⟩
theorem hdReady_any (l : List Nd) (A : Option Addr) (c : Nat) (x : Itm) (h0 : 0 < l.length) (hx : HdF l x) (hlen : l.length <= 1073741824) (w : World) (hrow : NRow w A l) :
 Calls Try.prog 65 #[.agg #[.slice A l.length c], .agg (itV x)] w (Ans w (.bool (rdyS l [x]))) := by
 obtain ⟨i, hil, hin⟩ := hx.inl h0
 have hkd := hx.kind
 obtain ⟨kk, nn, lo, hi'⟩ := x
 simp only at hin hkd
 subst hin
 have HS := Lib.hid (HfS.new c ⟨kk, (i : Int), lo, hi'⟩ hrow)
 have HN := Lib.hid (fun (w' : World) (h : NRow w' A l) => hdNode_any l A c ⟨kk, (i : Int), lo, hi'⟩ i hil rfl hlen w' h)
 obtain ⟨v, hv⟩ : ∃ v, rdyS l [⟨kk, (i : Int), lo, hi'⟩] = v := ⟨_, rfl⟩
 have HV := Lib.hid hv
 rw [hv]
 clear hrow hx hv
 go_enter Try.func65, Try.ntmps65
 go_upto_region 1 with (fail)
 unfold itV at HS HN ⊢
 simp only at HS HN ⊢
 generalize (w.alloc (.cells #[.slice A l.length c] 24)).alloc (.cells #[.int .i64 kk, .int .i64 (i : Int), .int .i64 lo, .int .i64 hi'] 44) = w1 at HS ⊢
 have x0 := HS.out.it.cell 0
 have x1 := HS.out.it.cell 1
 have x2 := HS.out.it.cell 2
 have x3 := HS.out.it.cell 3
 have e0 := HS.out.s.box.cell 0
 simp [itV] at x0 x1 x2 x3 e0
 have HB := Lib.hid HS.out.s.bel
 by_cases k1 : kk = 1
 ·subst k1
  have HV2 : Hid (v = ((atN l i).kind == 2 || (atN l i).kind == 8 || (atN l i).kind == 9)) := by unfold Hid; rw [<- HV.out]; exact rdy_k1
  have HR := Lib.hid HS.out.s.row
  clear HV
  generalize atN l i = n at *
  obtain ⟨nk, na, nb, nlo, nhi, ncls, ntext⟩ := n
  simp only at HV2
  go_wp2_with fail
  refine (HN.out _ HR.out).mono ?_
  rintro e w' ⟨rfl, hb⟩
  have HB2 := Lib.hid (HB.out.trans (hb.mono HB.out.size))
  clear hb HN HR HB HS x0 x1 x2 x3 e0
  unfold ndC
  have hfd := field_nd0 nk na nb nlo nhi (wd ncls 0) (wd ncls 1) (wd ncls 2) (wd ncls 3) (bs ntext)
  cases hb1 : (nk == 2) with
  | true => rw [hb1] at HV2; go_wp2; go_ret; exact ⟨by rw [HV2.out]; rfl, HB2.out⟩
  | false =>
   rw [hb1] at HV2
   cases hb2 : (nk == 8) with
   | true => rw [hb2] at HV2; go_wp2; go_ret; exact ⟨by rw [HV2.out]; rfl, HB2.out⟩
   | false =>
    rw [hb2] at HV2
    cases hb3 : (nk == 9) with
    | true => rw [hb3] at HV2; go_wp2; go_ret; exact ⟨by rw [HV2.out]; rfl, HB2.out⟩
    | false => rw [hb3] at HV2; go_wp2; go_ret; exact ⟨by rw [HV2.out]; rfl, HB2.out⟩
 ·have hk1 : (kk == 1) = false := by simpa using k1
  by_cases k3 : kk = 3
  ·have HV2 : Hid (v = true) := by unfold Hid; rw [<- HV.out, k3]; rfl
   subst k3
   clear HV HN HS
   go_wp2; go_ret; exact ⟨by rw [HV2.out]; rfl, HB.out⟩
  ·have hk3 : (kk == 3) = false := by simpa using k3
   by_cases k4 : kk = 4
   ·have HV2 : Hid (v = true) := by unfold Hid; rw [<- HV.out, k4]; rfl
    subst k4
    clear HV HN HS
    go_wp2; go_ret; exact ⟨by rw [HV2.out]; rfl, HB.out⟩
   ·have hk4 : (kk == 4) = false := by simpa using k4
    have HV2 : Hid (v = false) := by unfold Hid; rw [<- HV.out]; unfold rdyS; simp [k1, k3, k4]
    clear HV HN HS
    go_wp2; go_ret; exact ⟨by rw [HV2.out]; rfl, HB.out⟩
def rowC (r : List Itm) : List Value := flatIt (r ++ List.replicate (2 - r.length) it0) ++ [.int .i64 (r.length : Int)]
def rwsC (L : List (List Itm)) : Array Value := (rowC (L.getD 0 []) ++ rowC (L.getD 1 []) ++ [Value.int .i64 (L.length : Int)]).toArray
def RwOk (L : List (List Itm)) : Prop := L.length <= 2 /\ ∀ r ∈ L, r.length <= 2
theorem rowC_len {r : List Itm} (h : r.length <= 2) : (rowC r).length = 9 := by
 unfold rowC
 rw [List.length_append, flatIt_length, List.length_append, List.length_replicate]
 show (r.length + (2 - r.length)) * 4 + 1 = 9
 omega
theorem RwOk.at {L : List (List Itm)} (h : RwOk L) (i : Nat) : (L.getD i []).length <= 2 := by
 rw [List.getD_eq_getElem?_getD]
 cases hi : L[i]? with
 | none => simp
 | some r => simp; exact h.2 r (List.mem_of_getElem? hi)
theorem rwsC_size {L : List (List Itm)} (h : RwOk L) : (rwsC L).size = 19 := by
 unfold rwsC
 rw [List.size_toArray, List.length_append, List.length_append, rowC_len (h.at 0), rowC_len (h.at 1)]; rfl
theorem rwsC_many {L : List (List Itm)} (h : RwOk L) : (rwsC L)[18]? = some (.int .i64 (L.length : Int)) := by
 unfold rwsC
 rw [List.getElem?_toArray, List.getElem?_append_right (by rw [List.length_append, rowC_len (h.at 0), rowC_len (h.at 1)]; omega), List.length_append, rowC_len (h.at 0), rowC_len (h.at 1)]
 rfl
theorem rwsC_row {L : List (List Itm)} (h : RwOk L) {i j : Nat} (hi : i < 2) (hj : j < 9) : (rwsC L)[i * 9 + j]? = (rowC (L.getD i []))[j]? := by
 unfold rwsC
 rw [List.getElem?_toArray]
 have h0 := rowC_len (h.at 0)
 have h1 := rowC_len (h.at 1)
 rcases (by omega : i = 0 \/ i = 1) with rfl | rfl
 ·rw [Nat.zero_mul, Nat.zero_add, List.getElem?_append_left (by rw [List.length_append]; omega), List.getElem?_append_left (by omega)]
 ·rw [List.getElem?_append_left (by rw [List.length_append]; omega), List.getElem?_append_right (by omega), h0]
  congr 1; omega
theorem rows3 {r : List Itm} (h : r.length <= 2) : r = [] \/ (∃ a, r = [a]) \/ ∃ a b, r = [a, b] := by
 match r, h with
 | [], _ => exact .inl rfl
 | [a], _ => exact .inr (.inl ⟨a, rfl⟩)
 | [a, b], _ => exact .inr (.inr ⟨a, b, rfl⟩)
 | _ :: _ :: _ :: _, h => exact absurd h (by simp)
theorem rws_step {L : List (List Itm)} (hL : L.length < 2) (h : RwOk L) {r : List Itm} (hr : r.length <= 2) :
 ((((rwsC L).toList.take (L.length * 9) ++ flatIt r ++ (rwsC L).toList.drop (L.length * 9 + (flatIt r).length)).toArray.setIfInBounds (L.length * 9 + 8) (.int .i64 (r.length : Int))).setIfInBounds 18 (.int .i64 ((L.length : Int) + 1))) = rwsC (L ++ [r]) := by
 match L, hL, h with
 | [], _, _ => rcases rows3 hr with rfl | ⟨a, rfl⟩ | ⟨a, b, rfl⟩ <;> rfl
 | [q], _, h =>
  have hq := h.2 q (List.mem_cons_self ..)
  rcases rows3 hq with rfl | ⟨c, rfl⟩ | ⟨c, d, rfl⟩ <;> rcases rows3 hr with rfl | ⟨a, rfl⟩ | ⟨a, b, rfl⟩ <;> rfl
 | _ :: _ :: _, hL, _ => exact absurd hL (by simp)
theorem run_copy_it (w : World) (ty : TypeId) (g o dCap : Nat) (A : Option Addr) (c : Nat) (r : List Itm) (cur : Array Value) (t : TypeId) (hg : Blk w g cur t) (hr : r.length <= 2) (hfit : o + r.length * 4 <= cur.size) (hrow : ItRow w A r) :
 (Builtin.copy_ #[25, 25] ty #[.slice (some ⟨g, o, none⟩) 2 dCap, .slice A r.length c]).run Try.prog w = .ok (.int .i64 (r.length : Int)) (w.setRow g (cur.toList.take o ++ flatIt r ++ cur.toList.drop (o + (flatIt r).length)).toArray) := by
 obtain ⟨ib, hib, hz0, hz1, hz2⟩ := info_parts infoIt
 have hst := run_storeCells_at Try.prog g o t (flatIt r) 0 cur w hg (by rw [flatIt_length]; exact hfit) (flatIt_ones r)
 have hmn : Nat.min r.length 2 = r.length := Nat.min_eq_left hr
 have hf : (Builtin.firstCells ib.size r.length (.slice A r.length c)).run Try.prog w = .ok (flatIt r).toArray w := by
  by_cases hne : 0 < r.length
  ·obtain ⟨b, oo, rfl, -, -⟩ := hrow 0 hne
   exact run_firstCells_some (P := Try.prog) w ib.size r.length ⟨b, oo, none⟩ r.length c (flatIt r) (by rw [flatIt_length, hz1]) hrow.news
  ·have hl : r = [] := List.length_eq_zero_iff.1 (by omega)
   subst hl
   cases A with
   | none => rfl
   | some x => exact run_firstCells_some (P := Try.prog) w ib.size 0 x 0 c [] (by simp) (by simp)
 simp [Builtin.copy_, run_underlying Try.underlying25, Builtin.lenOf, sizeOf, typeInfo, hib, hmn, hf, hst]
 rfl
def HaddP (w : World) (g : Nat) (L : List (List Itm)) (e : Ending) (w' : World) : Prop := e = .returned (.tuple #[]) /\ Blk w' g (rwsC L) 113 /\ w.grownBy w' (some g)
structure HadS (w0 : World) (g : Nat) (L : List (List Itm)) (A : Option Addr) (r : List Itm) (w : World) : Prop where
 bel : Below w0.heap.size w0 w
 blk : Blk w g (rwsC L) 113
 row : ItRow w A r
theorem HadS.later {w0 w w' : World} {g : Nat} {L : List (List Itm)} {A : Option Addr} {r : List Itm} (h : HadS w0 g L A r w) (hb : Below w.heap.size w w') : HadS w0 g L A r w' := ⟨h.bel.trans (hb.mono h.bel.size), h.blk.later hb, h.row.later hb⟩
theorem setRow_grown (w : World) (g : Nat) (cs : Array Value) : w.grownBy (w.setRow g cs) (some g) := ⟨rfl, rfl, rfl, by rw [setRow_size]; omega, fun k hk hne => setRow_other w g k cs (fun e => hne (by rw [e]))⟩
theorem setCell_grown (w : World) (g j : Nat) (v : Value) : w.grownBy (w.setCell ⟨g, j, none⟩ v) (some g) := by
 have h := (Below.refl w.heap.size w)
 refine ⟨rfl, rfl, rfl, by simp [World.setCell], fun k hk hne => ?_⟩
 unfold World.setCell
 simp only [Array.getElem?_modify]
 rw [if_neg (fun e => hne (by rw [<- e]))]
theorem grown_trans {a b c : World} {ro : Option Nat} (h : a.grownBy b ro) (k : b.grownBy c ro) : a.grownBy c ro := ⟨k.os.trans h.os, k.tape.trans h.tape, k.output.trans h.output, Nat.le_trans h.size k.size, fun i hi hne => (k.block i (Nat.lt_of_lt_of_le hi h.size) hne).trans (h.block i hi hne)⟩
theorem rw_mid {X : Array Value} (hX : X.size = 19) {k n : Nat} (hk : k < 2) {F : List Value} (hF : F.length = n * 4) (hn : n <= 2) : (X.toList.take (k * 9) ++ F ++ X.toList.drop (k * 9 + F.length)).toArray.size = 19 /\ (X.toList.take (k * 9) ++ F ++ X.toList.drop (k * 9 + F.length)).toArray[18]? = X[18]? := by
 have hl : X.toList.length = 19 := by rw [Array.length_toList, hX]
 constructor
 ·rw [List.size_toArray, List.length_append, List.length_append, List.length_take, List.length_drop, hF, hl]; omega
 ·have h1 : (X.toList.take (k * 9) ++ F).length = k * 9 + n * 4 := by rw [List.length_append, List.length_take, hF, hl]; omega
  rw [List.getElem?_toArray, List.getElem?_append_right (by rw [h1]; omega), h1, hF, List.getElem?_drop, <- Array.getElem?_toList]
  congr 1; omega
theorem hdAdd_any (L : List (List Itm)) (hL : L.length < 2) (hok : RwOk L) (r : List Itm) (hr : r.length <= 2) (g : Nat) (A : Option Addr) (c : Nat) (w : World) (hg : Blk w g (rwsC L) 113) (hrow : ItRow w A r) :
 Calls Try.prog 86 #[.pointer (some ⟨g, 0, none⟩), .slice A r.length c] w (HaddP w g (L ++ [r])) := by
 have HI : Hid (HadS w g L A r w) := ⟨Below.refl _ _, hg, hrow⟩
 have HCP := Lib.hid (fun (w' : World) (h : HadS w g L A r w') (ty : TypeId) => run_copy_it w' ty g (L.length * 9) 2 A c r (rwsC L) 113 h.blk hr (by rw [rwsC_size hok]; omega) h.row)
 have HST := Lib.hid (rws_step hL hok hr)
 have HM := Lib.hid (rwsC_many hok)
 have hlz : (L.length : Int) < 2 := by omega
 have hlz0 : ¬ (L.length : Int) < 0 := by omega
 obtain ⟨hz1, hz2⟩ := rw_mid (rwsC_size hok) hL (flatIt_length r) hr
 rw [rwsC_many hok] at hz2
 have HSZ := Lib.hid hz1
 have HM2 := Lib.hid hz2
 clear hg hrow hz1 hz2
 go_enter Try.func86, Try.ntmps86
 go_upto_region 0 with (fail)
 refine wp_region_stable (S := (HadS w g L A r)) (hSt := fun _ _ h hb => h.later hb) (plan := [[(0, none)], [(0, none)], [(6, some 1)], [(7, some 2)], [(8, some 3)], [(5, some 0)], [(10, some 5)], [(11, some 6), (9, some 4)], [(12, some 7)]]) (by kernel_rfl) (by kernel_rfl) (by kernel_rfl) ?hS ?_
 rotate_left
 iterate 9 first
  | (refine chain_skip (by rfl) (by rfl) ?_)
  | (apply chain_want (by rfl)
     ·intro act wx hS hr
      simp at hr
      have c18 : wx.cell? ⟨g, 18, none⟩ = some (.int .i64 (L.length : Int)) := by rw [hS.blk.cell]; exact HM.out
      go_simp
      (try go_ints)
      first
       | exact Done.same
    )
 show ∀ w', _ -> _
 intro wz hz
 simp [Act.put]
 case hS => exact HI.out
 have HZ := Lib.hid hz
 have hcp := HCP.out wz hz
 generalize ((rwsC L).toList.take (L.length * 9) ++ flatIt r ++ (rwsC L).toList.drop (L.length * 9 + (flatIt r).length)).toArray = cs at *
 have HB2 : Hid (Blk (wz.setRow g cs) g cs 113) := setRow_heap _ _ _ _ _ _ hz.blk
 have HG2 := Lib.hid (setRow_grown wz g cs)
 generalize wz.setRow g cs = w2 at *
 generalize hk : L.length = k at *
 have HK := Lib.hid hk
 have hk2 : k < 2 := hL
 clear hz hk hL
 have c18 : w2.cell? ⟨g, 18, none⟩ = some (.int .i64 (k : Int)) := by rw [HB2.out.cell]; exact HM2.out
 have f18 := HB2.out.frozen 18
 have f8 := HB2.out.frozen (k * 9 + 8)
 obtain ⟨u8, c8⟩ : ∃ v, w2.cell? ⟨g, k * 9 + 8, none⟩ = some v := by rw [HB2.out.cell]; exact ⟨_, Array.getElem?_eq_getElem (by rw [HSZ.out]; omega)⟩
 have hne : ¬ 18 = k * 9 + 8 := by omega
 go_wp2
 go_end0
 have hb3 := (HB2.out.setCell (k * 9 + 8) (.int .i64 (r.length : Int))).setCell 18 (.int .i64 ((k : Int) + 1))
 rw [HST.out] at hb3
 have hg1 : w.grownBy wz (some g) := ⟨HZ.out.bel.os, HZ.out.bel.tape, HZ.out.bel.output, HZ.out.bel.size, fun j hj _ => HZ.out.bel.block j hj⟩
 exact ⟨rfl, hb3, grown_trans hg1 (grown_trans HG2.out (grown_trans (setCell_grown _ _ _ _) (setCell_grown _ _ _ _)))⟩
theorem hdWhole_any (n : Int) (w : World) : Calls Try.prog 87 #[.int .i64 n] w (Ans w (.agg #[.int .i64 1, .int .i64 n, .int .i64 0, .int .i64 0])) := by
 go_enter Try.func87, Try.ntmps87
 go_upto_region 1 with (fail)
 have HB := Lib.hid ((Below.refl w.heap.size w).alloc (Nat.le_refl _) (.cells #[.int .i64 0, .int .i64 0, .int .i64 0, .int .i64 0] 44))
 have HN := Lib.hid (Blk.new w #[.int .i64 0, .int .i64 0, .int .i64 0, .int .i64 0] 44)
 generalize w.alloc (.cells #[.int .i64 0, .int .i64 0, .int .i64 0, .int .i64 0] 44) = w1 at *
 have f0 := HN.out.frozen 0
 have f1 := HN.out.frozen 1
 have f2 := HN.out.frozen 2
 have f3 := HN.out.frozen 3
 have c0 := HN.out.cell 0
 have c1 := HN.out.cell 1
 have c2 := HN.out.cell 2
 have c3 := HN.out.cell 3
 simp at c0 c1 c2 c3
 go_wp2
 refine bodyPost_ret (v := .agg #[.int .i64 1, .int .i64 n, .int .i64 0, .int .i64 0]) ?_ rfl ⟨rfl, ?_⟩
 ·simp [results, Try.results87, go_sem]
  go_simp
  try rfl
 ·have hg : w.heap.size <= w.heap.size := Nat.le_refl _
  repeat' (refine Below.setCell (p := ⟨w.heap.size, _, none⟩) ?_ hg _)
  exact HB.out
end Go.Proofs.Ytidoofdofdhjpaa
