/- An item passed: walked. -/
import Derived.Test.YtidoofdofdhjpaaM31
import Derived.Test.YtidoofdofdhjpaaM25
import Derived.Test.YtidoofdofdhjpaaM14
import Derived.Test.YtidoofdofdhjpaaM23
import Derived.Deep.MidRow
import Derived.Shelf.Spec.SlicesGrow
import Derived.Maps.RangeRun
namespace Go.Proofs.Ytidoofdofdhjpaa
open Go Go.RowKit
set_option linter.unusedVariables false
set_option linter.unusedSimpArgs false
set_option maxRecDepth 100000
set_option maxHeartbeats 16000000
structure HuR (l : List Nd) (NA : Option Addr) (c wb m : Nat) (w0 : World) (T : List (List Itm)) (Ah : List Itm) (f : Nat) (HE : List HdE) (k : Nat) (ws : World) (lb j p f' : Nat) (HE' : List HdE) (v' : Value) (w : World) : Prop where
 s : HwS l NA c wb m w0 Ah f' HE' v' w
 k' : HdK w0 wb ws w
 ok : HOk HE'
 bl : Blk w lb (rwsC T) 113
 p2 : p <= 2 * j
 hit : ∀ t, min 2 (mnyE HE' t + k * hitF ((T.drop j).flatMap (rchS l)) Ah t) = min 2 (mnyE HE t + k * hitF (T.flatMap (rchS l)) Ah t)
 nil : min 2 (p + k * nilF ((T.drop j).flatMap (rchS l))) = min 2 (k * nilF (T.flatMap (rchS l)))
 fu : f + dpR l (T.drop j) <= f' + dpR l T
 fl : f' <= f
def HuL (l : List Nd) (NA : Option Addr) (c wb m : Nat) (w0 : World) (T : List (List Itm)) (Ah : List Itm) (f : Nat) (HE : List HdE) (k : Nat) (ws : World) (lb : Nat) (p i : Value) (w : World) : Prop :=
 ∃ (j p' f' : Nat) (HE' : List HdE) (v' : Value), j <= T.length /\ i = .int .i64 (j : Int) /\ p = .int .i64 (p' : Int) /\ HuR l NA c wb m w0 T Ah f HE k ws lb j p' f' HE' v' w
section
variable {l : List Nd} {NA : Option Addr} {c wb m : Nat} {w0 : World} {T : List (List Itm)} {Ah : List Itm} {f : Nat} {HE : List HdE} {k : Nat} {ws : World} {lb j p f' : Nat} {HE' : List HdE} {v' : Value} {w w1 w' : World}
theorem rows_drop (hj : j < T.length) : T.drop j = T.getD j [] :: T.drop (j + 1) := by
 rw [List.drop_eq_getElem_cons hj, List.getD_eq_getElem?_getD, List.getElem?_eq_getElem hj]; rfl
theorem HuR.later (h : HuR l NA c wb m w0 T Ah f HE k ws lb j p f' HE' v' w) (hb : Below w.heap.size w w') : HuR l NA c wb m w0 T Ah f HE k ws lb j p f' HE' v' w' :=
 ⟨h.s.later hb, h.k'.trans (.of h.s.size hb), h.ok, h.bl.later hb, h.p2, h.hit, h.nil, h.fu, h.fl⟩
theorem HuR.step (h : HuR l NA c wb m w0 T Ah f HE k ws lb j p f' HE' v' w) (hj : j < T.length) (hk : k ≠ 0) (hlb : lb ≠ wb) {e : Ending} (hp : HpP l NA c wb m w0 (rchS l (T.getD j [])) Ah f' (dpS l (T.getD j [])) HE' k w e w') :
 ∃ (HE2 : List HdE) (v2 : Value) (f2 : Nat), e = .returned (.int .i64 ((min 2 (k * nilF (rchS l (T.getD j []))) : Nat) : Int)) /\ HuR l NA c wb m w0 T Ah f HE k ws lb (j + 1) (p + min 2 (k * nilF (rchS l (T.getD j [])))) f2 HE2 v2 w' := by
 obtain ⟨HE2, v2, f2, he, g1, g2, g3, g4, g5, g6⟩ := hp
 refine ⟨HE2, v2, f2, he, g1, h.k'.trans g2, g3, g2.typ _ _ _ h.bl (by decide) hlb, by have := h.p2; omega, fun t => ?_, ?_, ?_, Nat.le_trans g6 h.fl⟩
 ·rw [g4 t, (row_round (l := l) (T.getD j []) (T.drop (j + 1)) Ah t (h := mnyE HE' t) (w := k) (p := p)).1, <- rows_drop hj]
  exact h.hit t
 ·rw [(row_round (l := l) (T.getD j []) (T.drop (j + 1)) Ah [] (h := 0) (w := k) (p := p)).2, <- rows_drop hj]
  exact h.nil
 ·have h1 := h.fu
  rw [rows_drop hj, dpR_cons] at h1
  rw [if_neg hk] at g5
  omega
end
theorem dpR_drop (l : List Nd) : ∀ (j : Nat) (T : List (List Itm)), dpR l (T.drop j) <= dpR l T
 | 0, T => by rw [List.drop_zero]; exact Nat.le_refl _
 | j + 1, [] => by simp
 | j + 1, t :: T => by
  rw [List.drop_succ_cons, dpR_cons]
  have := dpR_drop l j T
  omega
theorem row_range {w : World} {lb : Nat} {T : List (List Itm)} (h : Blk w lb (rwsC T) 113) (hok : RwOk T) {j : Nat} (hj : j < 2) : w.rangeAt lb (j * 9) (rowC (T.getD j [])) := fun i v hv => by
 have hi : i < 9 := by rw [<- rowC_len (hok.at j)]; exact (List.getElem?_eq_some_iff.1 hv).1
 rw [h.cell, rwsC_row hok hj hi]; exact hv
theorem rowC_info {r : List Itm} (h : r.length <= 2) : (Try.prog.info? 110).map (·.size) = some (rowC r).length := by rw [rowC_len h]; kernel_rfl
theorem rowC_infoA {r : List Itm} (h : r.length <= 2) : (Try.prog.info? 110).map (·.size) = some (rowC r).toArray.size := by rw [List.size_toArray]; exact rowC_info h
theorem rowC_ones {r : List Itm} : (rowC r).toArray.all (·.oneCell') = true := by
 rw [Array.all_eq_true_iff_forall_mem]
 intro v hv
 unfold rowC at hv
 rw [List.mem_toArray] at hv
 rcases List.mem_append.1 hv with h | h
 ·exact flatIt_ones _ v h
 ·rw [List.mem_singleton.1 h]; rfl
theorem hd_itok {l : List Nd} (hF : Form l) (hlen : l.length <= 1000000) (htx : Txt l) {s : List Itm} (hs : ∀ y ∈ s, HdF l y) : ItOk s := fun x hm => by
 have hx := hs x hm
 have hk := hx.kind
 have hn : 0 <= x.node /\ x.node <= 1000000 := by
  by_cases h5 : x.kind = 5
  ·have := hx.stop h5; omega
  ·have := hx.node h5; omega
 have hlh : (0 <= x.lo /\ x.lo <= 281474976710656) /\ 0 <= x.hi /\ x.hi <= 1000 := by
  rcases (by omega : x.kind = 1 \/ x.kind = 2 \/ x.kind = 3 \/ x.kind = 4 \/ x.kind = 5) with h | h | h | h | h
  ·have := hx.one h; omega
  ·have h2 := hx.two h
   have h3 := hx.node (by omega)
   have hb : (atN l x.node.toNat).hi <= 255 := by
    cases hd_cs hF (show x.node.toNat < l.length by omega) with
    | leaf h1 hf => unfold leafK at h1; omega
    | one h1 hi0 ha hb h7 hr hcl hf => have := hr h2.1; omega
    | two h1 hi0 hb ha hf0 hl hcl hf => omega
   omega
  ·have h2 := hx.three h
   have h3 := txt_at htx x.node.toNat
   omega
  ·have := hx.four h; omega
  ·have := hx.stop h; omega
 exact ⟨by omega, by omega, by omega, by omega⟩
structure HuS (l : List Nd) (NA : Option Addr) (c wb m : Nat) (w0 : World) (x : Itm) (Ah : List Itm) (f : Nat) (HE : List HdE) (v : Value) (ws : World) (xb : Nat) (w : World) : Prop where
 s : HwS l NA c wb m w0 (x :: Ah) f HE v w
 k' : HdK w0 wb ws w
 xb : Blk w xb (itV x) 44
theorem HuS.later {l : List Nd} {NA : Option Addr} {c wb m : Nat} {w0 : World} {x : Itm} {Ah : List Itm} {f : Nat} {HE : List HdE} {v : Value} {ws w w' : World} {xb : Nat} (h : HuS l NA c wb m w0 x Ah f HE v ws xb w) (hb : Below w.heap.size w w') : HuS l NA c wb m w0 x Ah f HE v ws xb w' :=
 ⟨h.s.later hb, h.k'.trans (.of h.s.size hb), h.xb.later hb⟩
structure HuQ (l : List Nd) (NA : Option Addr) (c wb m : Nat) (w0 : World) (x : Itm) (Ah : List Itm) (f : Nat) (HE : List HdE) (v : Value) (ws : World) (xb : Nat) (w : World) : Prop where
 s : HwS l NA c wb m w0 Ah f HE v w
 k' : HdK w0 wb ws w
 xb : Blk w xb (itV x) 44
theorem HuQ.later {l : List Nd} {NA : Option Addr} {c wb m : Nat} {w0 : World} {x : Itm} {Ah : List Itm} {f : Nat} {HE : List HdE} {v : Value} {ws w w' : World} {xb : Nat} (h : HuQ l NA c wb m w0 x Ah f HE v ws xb w) (hb : Below w.heap.size w w') : HuQ l NA c wb m w0 x Ah f HE v ws xb w' :=
 ⟨h.s.later hb, h.k'.trans (.of h.s.size hb), h.xb.later hb⟩
def NewR (n : Nat) (v : Value) (w : World) : Prop := ∃ b, v = .pointer (some ⟨b, 0, none⟩) /\ n <= b /\ Blk w b (rwsC []) 113
theorem NewR.later (n : Nat) (v : Value) (w w' : World) (h : NewR n v w) (hb : Below w.heap.size w w') : NewR n v w' := by
 obtain ⟨b, h1, h2, h3⟩ := h
 exact ⟨b, h1, h2, h3.later hb⟩
theorem HdK.late {w0 ws w w' : World} {wb lb : Nat} (h : HdK w0 wb ws w) (hn : ws.heap.size <= lb) (h0 : w0.heap.size <= ws.heap.size) (hg : w.grownBy w' (some lb)) (hlt : ws.heap.size <= w.heap.size) : HdK w0 wb ws w' :=
 ⟨bel_grown h.bel (by omega) hg (by omega), fun b cs t hb h1 h2 => (hg.block b (by have := hb.lt; omega) (fun e => by cases e; have := hb.lt; omega)).trans (h.typ b cs t hb h1 h2)⟩
theorem HwS.gbT {l : List Nd} {NA : Option Addr} {c wb m : Nat} {w0 w w' : World} {Ah : List Itm} {f : Nat} {HE : List HdE} {v : Value} (h : HwS l NA c wb m w0 Ah f HE v w) {b : Nat} {cs : Array Value} {t : TypeId} (hb : Blk w b cs t) (h1 : t ≠ 44) (h2 : t ≠ 81) (hg : w.grownBy w' (some b)) (h0 : w0.heap.size <= b) : HwS l NA c wb m w0 Ah f HE v w' := by
 have hkp : ∀ {u : Value} {x : List Itm}, OwnIt w w0.heap.size u x -> OwnIt w' w0.heap.size u x := fun hu => World.ownsRow.kept hu hg (.inr (own_not hu hb h1))
 refine ⟨bel_grown h.bel h.size hg h0, h.row, (hg.block _ h.blk.lt (fun e => ?_)).trans h.blk, hkp h.own, (hg.block _ h.map.lt (fun e => ?_)).trans h.map, h.hwb, h.hm, fun e he => ⟨hkp (h.ent e he).1, (h.ent e he).2⟩⟩
 ·cases e; exact blk_typ h.blk hb (Ne.symm h2) rfl
 ·cases e
  have h3 := h.map
  unfold IsMapH at h3; unfold Blk at hb; rw [h3] at hb; cases hb
theorem hd_pass {l : List Nd} {NA : Option Addr} {c wb m : Nat} {w0 : World} {n : Nat} (hR : Rgt l) (hlen : l.length <= 1000000) (htx : Txt l) (hP : ∀ i, i < n -> ThruC l NA c wb m w0 i) : PassC l NA c wb m w0 n := by
 intro x Ah f HE v k w hx hA hs hO hk2 hf hl0 hk
 have h0 := hR.1.1
 obtain ⟨g, cp, cur, hv, hg, hblk, hcap, hmax, hsz, htake⟩ := hs.own.blk (by rw [List.length_reverse]; simp)
 rw [List.length_reverse, List.length_cons] at hv
 subst hv
 have HS := Lib.hid hs
 have c0 := hs.blk.cell 0
 have c1 := hs.blk.cell 1
 have c2 := hs.blk.cell 2
 simp [wkC] at c0 c1 c2
 have hxa : At4 w g (Ah.length * 4) x := by
  have h1 := hs.own.rowAt
  have h2 := h1.at (i := Ah.length) (by rw [List.length_reverse]; simp) rfl
  rw [Nat.zero_add, List.reverse_cons, List.getD_eq_getElem?_getD, List.getElem?_append_right (by rw [List.length_reverse]; exact Nat.le_refl _), List.length_reverse, Nat.sub_self] at h2
  exact h2
 have HRD := Lib.hid (fun (w' : World) (h : NRow w' NA l) => hdReady_any l NA c x h0 hx (by omega) w' h)
 have hcpz : (Ah.length : Int) < ((Ah.length + 1 : Nat) : Int) := by omega
 have hlz : ((Ah.length + 1 : Nat) : Int) - 1 = (Ah.length : Int) := by omega
 have hA0 : (Ah.length : Int) <= 1000 := by omega
 have HCAP : Hid (Ah.length + 1 <= cp) := by unfold Hid; rw [List.length_reverse, List.length_cons] at hcap; exact hcap
 obtain ⟨kk, nn, lo, hi⟩ := x
 unfold At4 at hxa
 simp only at hxa
 obtain ⟨x0, x1, x2, x3⟩ := hxa
 unfold itV at HRD
 simp only at HRD
 clear hs hblk hcap hmax hsz htake
 go_enter Try.func44, Try.ntmps44
 go_upto_region 3 with (fail)
 have hb := (Below.refl w.heap.size w).alloc (Nat.le_refl _) (.cells (itV ⟨kk, nn, lo, hi⟩) 44)
 have HU : Hid (HuS l NA c wb m w0 ⟨kk, nn, lo, hi⟩ Ah f HE (.slice (some ⟨g, 0, none⟩) (Ah.length + 1) cp) w w.heap.size (w.alloc (.cells (itV ⟨kk, nn, lo, hi⟩) 44))) := ⟨HS.out.later hb, .of HS.out.size hb, Blk.new _ _ _⟩
 clear hb x0 x1 x2 x3 c0 c1 c2
 unfold itV at HU
 simp only at HU
 generalize w.alloc (.cells #[.int .i64 kk, .int .i64 nn, .int .i64 lo, .int .i64 hi] 44) = w1 at HU ⊢
 by_cases hk0 : k = 0
 ·subst hk0
  refine wp_region_stable (S := (HuS l NA c wb m w0 ⟨kk, nn, lo, hi⟩ Ah f HE (.slice (some ⟨g, 0, none⟩) (Ah.length + 1) cp) w w.heap.size)) (hSt := fun _ _ h hb => h.later hb) (plan := [[(1, none)], [(24, some 0)], [(25, some 1)], [(0, none)], [(27, some 3)], [(28, some 4)], [(29, some 5)], [(6, none)], [(30, some 6), (31, some 7)], [(26, some 2), (32, some 8)]]) (by kernel_rfl) (by kernel_rfl) (by kernel_rfl) ?hS ?_
  rotate_left
  iterate 10 first
   | (refine chain_skip (by rfl) (by rfl) ?_)
   | (apply chain_want (by rfl)
      ·intro act wx hS hr
       simp at hr
       have SS := Lib.hid hS
       have c0 := SS.out.s.blk.cell 0
       have c1 := SS.out.s.blk.cell 1
       have c2 := SS.out.s.blk.cell 2
       have hit := SS.out.xb
       unfold itV at hit
       simp only at hit
       have x0 := hit.cell 0
       have x1 := hit.cell 1
       have x2 := hit.cell 2
       have x3 := hit.cell 3
       simp [wkC] at x0 x1 x2 x3 c0 c1 c2
       clear hit
       go_simp
       (try go_ints)
       first
        | exact Done.same
     )
  show ∀ w', _ -> _
  intro wz hz
  simp [Act.put]
  case hS => exact HU.out
  have HZ := Lib.hid hz
  clear hz HU HRD
  have SS := HZ
  have c0 := SS.out.s.blk.cell 0
  have c1 := SS.out.s.blk.cell 1
  have c2 := SS.out.s.blk.cell 2
  have hit := SS.out.xb
  unfold itV at hit
  simp only at hit
  have x0 := hit.cell 0
  have x1 := hit.cell 1
  have x2 := hit.cell 2
  have x3 := hit.cell 3
  simp [wkC] at x0 x1 x2 x3 c0 c1 c2
  clear hit
  have f1 := HZ.out.s.blk.frozen 1
  have HFIN : Hid (HpP l NA c wb m w0 (rchS l [⟨kk, nn, lo, hi⟩]) Ah f (csI l ⟨kk, nn, lo, hi⟩) HE 0 w (.returned (.int .i64 0)) (wz.setCell ⟨wb, 1, none⟩ (.slice (some ⟨g, 0, none⟩) Ah.length cp))) := by
   refine ⟨HE, _, f, by rw [Nat.zero_mul]; rfl, HZ.out.s.pop, HZ.out.k'.trans (HdK.set HZ.out.s.hwb 1 _), hO, fun t => ?_, by simp, Nat.le_refl _⟩
   rw [Nat.zero_mul, Nat.add_zero]
   have := mny_le hO t
   omega
  have hcc : (Ah.length : Int) <= (cp : Int) := by have := HCAP.out; omega
  have hcn : Ah.length <= cp := by have := HCAP.out; omega
  clear hk hk2 hA hO HZ SS
  go_wp2
  go_ret
  exact HFIN.out
 ·obtain ⟨hk1, hk3, hk4⟩ := hk hk0
  have hkp : (0 : Int) < (k : Int) := by omega
  have hkd : decide ((0 : Int) < (k : Int)) = true := decide_eq_true hkp
  have hkn : 0 < k := by omega
  have hkdn : decide (0 < k) = true := decide_eq_true hkn
  have hkz : (k : Int) <= 2 := by omega
  have HIT := Lib.hid (hd_itok hR.1 hlen htx (s := ⟨kk, nn, lo, hi⟩ :: Ah) (fun y hy => by
   rcases List.mem_cons.1 hy with rfl | h
   ·exact hx
   ·exact hA y h))
  cases hrd : rdyS l [⟨kk, nn, lo, hi⟩] with
  | true =>
   rw [hrd] at HRD
   refine wp_region_stable (S := (HuS l NA c wb m w0 ⟨kk, nn, lo, hi⟩ Ah f HE (.slice (some ⟨g, 0, none⟩) (Ah.length + 1) cp) w w.heap.size)) (hSt := fun _ _ h hb => h.later hb) (plan := [[(1, none)], [(24, some 0)], [(25, some 1)], [(0, none)], [(27, some 3)], [(28, some 4)], [(29, some 5)], [(6, none)], [(30, some 6), (31, some 7)], [(26, some 2), (32, some 8)]]) (by kernel_rfl) (by kernel_rfl) (by kernel_rfl) ?hS ?_
   rotate_left
   iterate 10 first
    | (refine chain_skip (by rfl) (by rfl) ?_)
    | (apply chain_want (by rfl)
       ·intro act wx hS hr
        simp at hr
        have SS := Lib.hid hS
        have c0 := SS.out.s.blk.cell 0
        have c1 := SS.out.s.blk.cell 1
        have c2 := SS.out.s.blk.cell 2
        have hit := SS.out.xb
        unfold itV at hit
        simp only at hit
        have x0 := hit.cell 0
        have x1 := hit.cell 1
        have x2 := hit.cell 2
        have x3 := hit.cell 3
        simp [wkC] at x0 x1 x2 x3 c0 c1 c2
        clear hit
        go_simp
        (try go_ints)
        first
         | ((with_reducible refine (HRD.out _ hS.s.nrow).mono ?_); rintro e w' ⟨rfl, hb⟩; exact Done.mk hb)
         | exact Done.same
      )
   show ∀ w', _ -> _
   intro wz hz
   simp [Act.put]
   case hS => exact HU.out
   have HZ := Lib.hid hz
   have HAD := Lib.hid (hdWadd_any l NA c wb m w0 (⟨kk, nn, lo, hi⟩ :: Ah) f HE (.slice (some ⟨g, 0, none⟩) (Ah.length + 1) cp) k ⟨by omega, hk2⟩ wz HZ.out.s (by rw [List.length_cons]; omega) HIT.out hO)
   clear hz HU HRD
   go_wp2_with fail
   refine HAD.out.mono ?_
   rintro e w5 ⟨rfl, HE5, g1, g2, g3, g4⟩
   have HFIN : Hid (HpP l NA c wb m w0 (rchS l [⟨kk, nn, lo, hi⟩]) Ah f (csI l ⟨kk, nn, lo, hi⟩) HE k w (.returned (.int .i64 0)) (w5.setCell ⟨wb, 1, none⟩ (.slice (some ⟨g, 0, none⟩) Ah.length cp))) := by
    have hq := hit_ready hrd
    refine ⟨HE5, _, f, by rw [(hq [] []).2, Nat.mul_zero]; rfl, g1.pop, (HZ.out.k'.trans g2).trans (HdK.set g1.hwb 1 _), g3, fun t => ?_, by omega, Nat.le_refl _⟩
    rw [g4 t, (hq Ah t).1]
    by_cases ht : t = ⟨kk, nn, lo, hi⟩ :: Ah
    ·rw [if_pos ht, if_pos ht.symm, Nat.mul_one, ht]
    ·rw [if_neg ht, if_neg (fun e => ht e.symm), Nat.mul_zero, Nat.add_zero]
     have := mny_le hO t
     omega
   have c1 := g1.blk.cell 1
   have f1 := g1.blk.frozen 1
   simp [wkC] at c1
   have hcc : (Ah.length : Int) <= (cp : Int) := by have := HCAP.out; omega
   have hcn : Ah.length <= cp := by have := HCAP.out; omega
   clear hk1 hk2 hk3 hk4 hk hA hO HZ g1 g2 g3 g4 HAD HIT hkp hkd hkn hkdn hkz hk0
   go_wp2
   go_ret
   exact HFIN.out
  | false =>
   rw [hrd] at HRD
   refine wp_region_stable (S := (HuS l NA c wb m w0 ⟨kk, nn, lo, hi⟩ Ah f HE (.slice (some ⟨g, 0, none⟩) (Ah.length + 1) cp) w w.heap.size)) (hSt := fun _ _ h hb => h.later hb) (plan := [[(1, none)], [(24, some 0)], [(25, some 1)], [(0, none)], [(27, some 3)], [(28, some 4)], [(29, some 5)], [(6, none)], [(30, some 6), (31, some 7)], [(26, some 2), (32, some 8)]]) (by kernel_rfl) (by kernel_rfl) (by kernel_rfl) ?hS ?_
   rotate_left
   iterate 10 first
    | (refine chain_skip (by rfl) (by rfl) ?_)
    | (apply chain_want (by rfl)
       ·intro act wx hS hr
        simp at hr
        have SS := Lib.hid hS
        have c0 := SS.out.s.blk.cell 0
        have c1 := SS.out.s.blk.cell 1
        have c2 := SS.out.s.blk.cell 2
        have hit := SS.out.xb
        unfold itV at hit
        simp only at hit
        have x0 := hit.cell 0
        have x1 := hit.cell 1
        have x2 := hit.cell 2
        have x3 := hit.cell 3
        simp [wkC] at x0 x1 x2 x3 c0 c1 c2
        clear hit
        go_simp
        (try go_ints)
        first
         | ((with_reducible refine (HRD.out _ hS.s.nrow).mono ?_); rintro e w' ⟨rfl, hb⟩; exact Done.mk hb)
         | exact Done.same
      )
   show ∀ w', _ -> _
   intro wz hz
   simp [Act.put]
   case hS => exact HU.out
   have HZ := Lib.hid hz
   clear hz HU HRD
   have hsum := opn_sum hR hx hrd
   have hf0 : 1 <= f := by omega
   have HX := Lib.hid hx
   obtain ⟨f9, rfl⟩ : ∃ f9, f = f9 + 1 := ⟨f - 1, by omega⟩
   have HS6 : Hid (HwS l NA c wb m w0 Ah f9 HE (.slice (some ⟨g, 0, none⟩) Ah.length cp) ((wz.setCell ⟨wb, 1, none⟩ (.slice (some ⟨g, 0, none⟩) Ah.length cp)).setCell ⟨wb, 2, none⟩ (.int .i64 (f9 : Int)))) := HZ.out.s.pop.fuel f9
   have HK6 : Hid (HdK w0 wb w ((wz.setCell ⟨wb, 1, none⟩ (.slice (some ⟨g, 0, none⟩) Ah.length cp)).setCell ⟨wb, 2, none⟩ (.int .i64 (f9 : Int)))) := (HZ.out.k'.trans (HdK.set HZ.out.s.hwb 1 _)).trans (HdK.set HZ.out.s.hwb 2 _)
   have HX6 : Hid (Blk ((wz.setCell ⟨wb, 1, none⟩ (.slice (some ⟨g, 0, none⟩) Ah.length cp)).setCell ⟨wb, 2, none⟩ (.int .i64 (f9 : Int))) w.heap.size (itV ⟨kk, nn, lo, hi⟩) 44) := (HZ.out.xb.setCell_ne (a := ⟨wb, 1, none⟩) (blk_typ HZ.out.s.blk HZ.out.xb (by decide)) _).setCell_ne (a := ⟨wb, 2, none⟩) (blk_typ HZ.out.s.blk HZ.out.xb (by decide)) _
   have SS := HZ
   have c0 := SS.out.s.blk.cell 0
   have c1 := SS.out.s.blk.cell 1
   have c2 := SS.out.s.blk.cell 2
   have hit := SS.out.xb
   unfold itV at hit
   simp only at hit
   have x0 := hit.cell 0
   have x1 := hit.cell 1
   have x2 := hit.cell 2
   have x3 := hit.cell 3
   simp [wkC] at x0 x1 x2 x3 c0 c1 c2
   clear hit
   have f1 := HZ.out.s.blk.frozen 1
   have f2 := HZ.out.s.blk.frozen 2
   have hcc : (Ah.length : Int) <= (cp : Int) := by have := HCAP.out; omega
   have hcn : Ah.length <= cp := by have := HCAP.out; omega
   have hk00 : ((k : Int) == 0) = false := by simp; omega
   have hf00 : (((f9 + 1 : Nat) : Int) == 0) = false := by simp; omega
   have hf01 : ((f9 + 1 : Nat) : Int) - 1 = (f9 : Int) := by omega
   clear HZ SS
   go_upto_region 11 with (fail)
   have d0 : ((wz.setCell ⟨wb, 1, none⟩ (.slice (some ⟨g, 0, none⟩) Ah.length cp)).setCell ⟨wb, 2, none⟩ (.int .i64 (f9 : Int))).heap.size = wz.heap.size := by simp [World.setCell]
   have HUS : Hid (HS6.out = HS6.out) := rfl
   clear HUS d0 x0 x1 x2 x3 c0 c1 c2 f1 f2 hcc hcn hf00 hf01 hk
   generalize (wz.setCell ⟨wb, 1, none⟩ (.slice (some ⟨g, 0, none⟩) Ah.length cp)).setCell ⟨wb, 2, none⟩ (.int .i64 (f9 : Int)) = w6 at HS6 HK6 HX6 ⊢
   have HOP := Lib.hid (fun (w' : World) (h : NRow w' NA l) => hdOpens_any l NA c ⟨kk, nn, lo, hi⟩ hR.1 h0 HX.out hrd (by omega) w' h)
   have HRC := Lib.hid (rch_one hR HX.out hrd)
   have HOK := Lib.hid (rw_len l ⟨kk, nn, lo, hi⟩)
   have HTF := Lib.hid (fun t ht => rw_form hR.1 HX.out (t := t) ht)
   generalize rwI l ⟨kk, nn, lo, hi⟩ = T at *
   generalize rchS l [⟨kk, nn, lo, hi⟩] = RX at *
   generalize csI l ⟨kk, nn, lo, hi⟩ = cs at *
   unfold itV at HOP
   simp only at HOP
   have HQ6 : Hid (HuQ l NA c wb m w0 ⟨kk, nn, lo, hi⟩ Ah f9 HE (.slice (some ⟨g, 0, none⟩) Ah.length cp) w w.heap.size w6) := ⟨HS6.out, HK6.out, HX6.out⟩
   clear HX HIT hx
   refine wp_region_stable_last (S := (HuQ l NA c wb m w0 ⟨kk, nn, lo, hi⟩ Ah f9 HE (.slice (some ⟨g, 0, none⟩) Ah.length cp) w w.heap.size)) (hSt := fun _ _ h hb => h.later hb) (plan := [[(0, none)], [(62, some 0)], [(63, some 1)], [(64, some 2)], [(6, none)], [(65, some 3), (66, some 4)], []]) rfl (by kernel_rfl) (by kernel_rfl) (by kernel_rfl) (by kernel_rfl) ?hS ?_
   rotate_left
   simp only [List.dropLast]
   iterate 6 first
    | (refine chain_skip (by rfl) (by rfl) ?_)
    | (apply chain_want (by rfl)
       ·intro act wx hS hr
        simp at hr
        have SS := Lib.hid hS
        have c0 := SS.out.s.blk.cell 0
        have c1 := SS.out.s.blk.cell 1
        have c2 := SS.out.s.blk.cell 2
        have hit := SS.out.xb
        unfold itV at hit
        simp only at hit
        have x0 := hit.cell 0
        have x1 := hit.cell 1
        have x2 := hit.cell 2
        have x3 := hit.cell 3
        simp [wkC] at x0 x1 x2 x3 c0 c1 c2
        clear hit
        go_simp
        (try go_ints)
        first
         | ((with_reducible refine (HOP.out _ hS.s.nrow).mono ?_); rintro e w' ⟨rfl, hb⟩; exact Done.mk hb)
         | exact Done.same
      )
   (refine chain_rel (NewR w.heap.size) (NewR.later w.heap.size) (by rfl) ?_ ?_
    ·intro act wx hS hr
     simp at hr
     have SS := Lib.hid hS
     have c0 := SS.out.s.blk.cell 0
     have c1 := SS.out.s.blk.cell 1
     have c2 := SS.out.s.blk.cell 2
     have hit := SS.out.xb
     unfold itV at hit
     simp only at hit
     have x0 := hit.cell 0
     have x1 := hit.cell 1
     have x2 := hit.cell 2
     have x3 := hit.cell 3
     simp [wkC] at x0 x1 x2 x3 c0 c1 c2
     clear hit
     all_goals go_simp
     exact Done.rel ((Below.refl _ _).alloc (Nat.le_refl _) _) ⟨_, rfl, Nat.le_of_lt hS.xb.lt, Blk.new _ _ _⟩
   )
   show ∀ w', _ -> _
   intro wz hz
   simp [Act.put]
   case hS => exact HQ6.out
   intro v6 hv6
   obtain ⟨lb, rfl, hlw, hlb⟩ := hv6
   refine wp_store_row 113 _ _ rfl lb (rwsC T) rfl rfl 113 (rwsC []) hlb (rwsC_info HOK.out) (by rw [rwsC_size HOK.out]; rfl) rwsC_ones ?_
   have hgr := setRow_grown wz lb (rwsC T)
   have h0w : w0.heap.size <= w.heap.size := HS.out.size
   have hww : w.heap.size <= wz.heap.size := Nat.le_of_lt hz.xb.lt
   have hwl : lb ≠ wb := blk_typ hlb hz.s.blk (by decide)
   have HBL : Hid (Blk (wz.setRow lb (rwsC T)) lb (rwsC T) 113) := setRow_blk hlb
   have HR0 : Hid (HuR l NA c wb m w0 T Ah f9 HE k w lb 0 0 f9 HE (.slice (some ⟨g, 0, none⟩) Ah.length cp) (wz.setRow lb (rwsC T))) := ⟨hz.s.gbT hlb (by decide) (by decide) hgr (by omega), hz.k'.late hlw h0w hgr hww, hO, HBL.out, Nat.le_refl _, fun t => rfl, by rw [Nat.zero_add]; rfl, Nat.le_refl _, Nat.le_refl _⟩
   have HWL := Lib.hid hwl
   have HK0 := Lib.hid hk0
   have HSU := Lib.hid hsum
   have HK1 := Lib.hid hk1
   have HK3 := Lib.hid hk3
   have HK4 := Lib.hid hk4
   have HK2 := Lib.hid hk2
   have HFF := Lib.hid hf
   have HOO := Lib.hid hO
   have HAA := Lib.hid hA
   clear hz hlb hlw hgr h0w hww hwl hk0 hsum hk1 hk3 hk4 hk2 hf hO hA HQ6 HS6 HK6 HX6 HOP hf0 hk00 HS
   generalize wz.setRow lb (rwsC T) = w7 at *
   have e18 := HBL.out.cell 18
   rw [rwsC_many HOK.out] at e18
   have hTz : (T.length : Int) <= 2 := by have := HOK.out.1; omega
   have hTn : T.length <= 2 := HOK.out.1
   go_wp2
   go_loopw [7, 10, 73] (fun p (b : Value) i wr => HuL l NA c wb m w0 T Ah f9 HE k w lb p i wr) (fun _ _ i _ => T.length - (intOf i).toNat)
   case atStart => exact ⟨0, 0, f9, HE, _, Nat.zero_le _, rfl, rfl, HR0.out⟩
   case round =>
    obtain ⟨j, p, f', HE', v', hj, rfl, rfl, hh⟩ := hrel
    have HH := Lib.hid hh
    have HJ := Lib.hid hj
    clear hh
    by_cases hlt : j < T.length
    ·have hz : (j : Int) < (T.length : Int) := by omega
     have hjn : ¬ (j : Int) < 0 := by omega
     have HLT := Lib.hid hlt
     have hr2 : (T.getD j []).length <= 2 := HOK.out.2 _ (by rw [List.getD_eq_getElem?_getD, List.getElem?_eq_getElem hlt]; exact List.getElem_mem hlt)
     have HR2 := Lib.hid hr2
     have hrf : ∀ y ∈ T.getD j [], HdF l y := HTF.out _ (by rw [List.getD_eq_getElem?_getD, List.getElem?_eq_getElem hlt]; exact List.getElem_mem hlt)
     have HRF := Lib.hid hrf
     have HRG := Lib.hid (row_range HH.out.bl HOK.out (show j < 2 by omega))
     have hb8 : Below wr.heap.size wr ((wr.alloc (.cells (rowC []).toArray 110)).setRow wr.heap.size (rowC (T.getD j [])).toArray) := (((Below.refl wr.heap.size wr).alloc (Nat.le_refl _) (.cells (rowC []).toArray 110)).grown (setRow_grown _ _ _) (by rw [World.size_alloc]; omega) (fun k hk => by cases hk; exact Nat.le_refl _))
     have HH8 := Lib.hid (HH.out.later hb8)
     have HBN := Lib.hid (Blk.new wr (rowC []).toArray 110)
     have HB8 : Hid (Blk ((wr.alloc (.cells (rowC []).toArray 110)).setRow wr.heap.size (rowC (T.getD j [])).toArray) wr.heap.size (rowC (T.getD j [])).toArray 110) := setRow_blk HBN.out
     have hTH := Lib.hid (hP (n - 1) (by have := HSU.out; have := HK3.out; omega) (T.getD j []) Ah f' HE' v' k ((wr.alloc (.cells (rowC []).toArray 110)).setRow wr.heap.size (rowC (T.getD j [])).toArray) hr2 hrf HAA.out HH8.out.s HH8.out.ok (by have := HK0.out; omega) HK2.out (by have := HH.out.fl; have := HFF.out; omega) (by
      have h1 := HH.out.fu
      have h2 := HSU.out
      have h3 := HK1.out
      have h4 := dpR_drop l j T
      rw [rows_drop hlt, dpR_cons] at h1 h4
      omega) (by
      have h2 := HSU.out
      have h3 := HK3.out
      have h4 := dpR_drop l j T
      rw [rows_drop hlt, dpR_cons] at h4
      omega) (by
      have h2 := HSU.out
      have h3 := HK4.out
      have h4 := dpR_drop l j T
      rw [rows_drop hlt, dpR_cons] at h4
      omega))
     clear hb8 hr2 hrf hlt hj
     go_upto_region 14 with (fail)
     go_wp2_with (first | (refine wpList_load_mid rfl 110 _ rfl lb (j * 9) rfl (rowC (T.getD j [])) _ HRG.out Try.underlying110 rfl (rowC_info HR2.out) ?_) | (refine wpList_store_row rfl 110 _ _ rfl wr.heap.size (rowC (T.getD j [])).toArray rfl rfl 110 (rowC []).toArray HBN.out (rowC_infoA HR2.out) (by rw [List.size_toArray, List.size_toArray, rowC_len HR2.out]; rfl) rowC_ones ?_) | (refine wpList_load_row rfl 110 _ rfl wr.heap.size rfl 110 (rowC (T.getD j [])).toArray (0, 0) _ HB8.out Try.underlying110 rfl (rowC_infoA HR2.out) ?_) | fail)
     refine hTH.out.mono ?_
     intro e w9 hpp
     obtain ⟨HE2, v2, f2, rfl, hnx⟩ := HH8.out.step HLT.out HK0.out HWL.out hpp
     have HNX := Lib.hid hnx
     have hp2 := hnx.p2
     have hj2 : j < 2 := by have := HLT.out; omega
     have hpz : (p : Int) <= 4 := by have := HH.out.p2; omega
     obtain ⟨q, hq⟩ : ∃ q, min 2 (k * nilF (rchS l (T.getD j []))) = q := ⟨_, rfl⟩
     have hqz : (q : Int) <= 2 := by omega
     rw [hq] at HNX ⊢
     clear hnx hpp hp2 hTH HBN HB8 HRG HRF HR2 hq
     go_wp2
     go_roundw
     case rel => exact ⟨j + 1, p + q, f2, HE2, v2, HLT.out, by go_num, by go_num, HNX.out⟩
     case measure => have := HLT.out; simp [intOf] <;> omega
    ·obtain rfl : j = T.length := by omega
     have hz : ¬ ((T.length : Nat) : Int) < (T.length : Int) := by omega
     have hpz : (p : Int) <= 4 := by have := HH.out.p2; omega
     have HFIN : Hid (HpP l NA c wb m w0 RX Ah (f9 + 1) cs HE k w (.returned (.int .i64 (min (p : Int) 2))) wr) := by
      have h1 := HH.out.nil
      have h2 := HH.out.fu
      have h3 := HSU.out
      have h4 := HK0.out
      rw [List.drop_length] at h1 h2
      have e0 : nilF (([] : List (List Itm)).flatMap (rchS l)) = 0 := rfl
      have e1 : dpR l [] = 0 := rfl
      rw [e0, Nat.mul_zero, Nat.add_zero, <- HRC.out] at h1
      rw [e1] at h2
      refine ⟨HE', v', f', by rw [<- h1]; congr 2; omega, HH.out.s, HH.out.k', HH.out.ok, fun t => ?_, by rw [if_neg h4]; omega, by have := HH.out.fl; omega⟩
      have h5 := HH.out.hit t
      rw [List.drop_length] at h5
      have e2 : hitF (([] : List (List Itm)).flatMap (rchS l)) Ah t = 0 := rfl
      rw [e2, Nat.mul_zero, Nat.add_zero, <- HRC.out] at h5
      have := mny_le HH.out.ok t
      omega
     clear hlt hj
     go_wp2
     go_ret
     exact HFIN.out
theorem hd_pass_all {l : List Nd} {NA : Option Addr} {c wb m : Nat} {w0 : World} (hR : Rgt l) (hlen : l.length <= 1000000) (htx : Txt l) (n : Nat) : PassC l NA c wb m w0 n := by
 induction n using Nat.strongRecOn with
 | ind n ih => exact hd_pass hR hlen htx fun i hi => hd_thru hR (ih i hi)
end Go.Proofs.Ytidoofdofdhjpaa
namespace Go.Proofs.Ytidoofdofdhjpaa
open Go Go.RowKit
set_option linter.unusedVariables false
set_option linter.unusedSimpArgs false
set_option maxRecDepth 100000
set_option maxHeartbeats 16000000
def HsP (HE : List HdE) (w : World) (e : Ending) (w' : World) : Prop :=
 ∃ v D, e = .returned v /\ D.Perm HE /\ D.Pairwise (fun a b => stC a.s b.s = -1) /\ OwnBr w' w.heap.size v D /\ Below w.heap.size w w'
theorem run_len_h (w : World) (m : Nat) (l : List HdE) (hm : IsMapH w m l) (ty : TypeId) : (Builtin.len_ #[79] ty #[.map (some m)]).run Try.prog w = .ok (.int .i64 (l.length : Int)) w := by
 unfold IsMapH at hm
 simp [Builtin.len_, Builtin.lenOf, Sem.run_bind, getObj, Sem.run, hm, Result.andThen, mapEsH_length, goInt, run_underlying Try.underlying79]
theorem run_range_h (w : World) (m : Nat) (l : List HdE) (hm : IsMapH w m l) : (Instr.range 79 (.map (some m))).run Try.prog w = .ok (.pointer (some ⟨w.heap.size, 0, none⟩)) (w.alloc (.mapIter (some m) l.length #[] l.length)) := by
 unfold IsMapH at hm
 simp [Instr.range, Sem.run_bind, getObj, Sem.run, hm, Result.andThen, run_underlying Try.underlying79, newObj]
theorem IsMapH.later {w w' : World} {m : Nat} {l : List HdE} (h : IsMapH w m l) (hb : Below w.heap.size w w') : IsMapH w' m l := (hb.block m h.lt).trans h
structure HsS (HE : List HdE) (m it : Nat) (w0 : World) (J : List Nat) (v : Value) (w : World) : Prop where
 bel : Below w0.heap.size w0 w
 own : OwnBr w w0.heap.size v (J.map fun j => HE.getD j hd0)
 it_ : w.heap[it]? = some (.mapIter (some m) HE.length J.toArray HE.length)
 nd : J.Nodup
 lt : ∀ j ∈ J, j < HE.length
 hit : w0.heap.size <= it
 nn : ∃ g n cap, v = .slice (some ⟨g, 0, none⟩) n cap
def HsL (HE : List HdE) (m it : Nat) (w0 : World) (v : Value) (w : World) : Prop := ∃ J, HsS HE m it w0 J v w
theorem mapEsH_mem {l : List HdE} {x : MapEntry} (h : x ∈ mapEsH l 0) : ∃ j, j < l.length /\ x = { key := .string (bs (stK (l.getD j hd0).s)), val := .agg (brC (l.getD j hd0)), born := j } := by
 obtain ⟨j, hj, rfl⟩ := List.mem_iff_getElem.1 h
 have hj2 : j < l.length := by rw [<- mapEsH_length l 0]; exact hj
 refine ⟨j, hj2, ?_⟩
 have h1 := mapEsH_get l 0 j
 rw [List.getElem?_eq_getElem hj, List.getElem?_eq_getElem hj2] at h1
 simp only [Option.map_some, Option.some.injEq, Nat.zero_add] at h1
 rw [h1, List.getD_eq_getElem?_getD, List.getElem?_eq_getElem hj2]; rfl
theorem mapEsH_borns (l : List HdE) (i : Nat) : (mapEsH l i).map (·.born) = List.range' i l.length := by
 induction l generalizing i with
 | nil => rfl
 | cons p l ih => rw [mapEsH, List.map_cons, ih, List.length_cons, List.range'_succ]
theorem nodup_lt {J : List Nat} {n : Nat} (hd : J.Nodup) (h : ∀ j ∈ J, j < n) : J.length <= n := by
 have h1 : J.Perm ((List.range n).filter fun j => decide (j ∈ J)) := (List.perm_ext_iff_of_nodup hd (List.nodup_range.filter _)).2 fun a => by
  rw [List.mem_filter, List.mem_range, decide_eq_true_iff]
  exact ⟨fun ha => ⟨h a ha, ha⟩, fun ha => ha.2⟩
 rw [h1.length_eq]
 exact Nat.le_trans (List.length_filter_le _ _) (by rw [List.length_range]; exact Nat.le_refl _)
theorem step_next {HE : List HdE} {m it : Nat} {w0 w : World} {J : List Nat} {v : Value} (h : HsS HE m it w0 J v w) (hm : IsMapH w m HE) (ty : TypeId) :
 ((∀ j, j < HE.length -> j ∈ J) /\ (Instr.next (.pointer (some ⟨it, 0, none⟩)) false ty).run Try.prog w = .ok (.tuple #[.bool false]) w) \/
 ∃ j w2, j < HE.length /\ j ∉ J /\ (Instr.next (.pointer (some ⟨it, 0, none⟩)) false ty).run Try.prog w = .ok (.tuple #[.bool true, .string (bs (stK (HE.getD j hd0).s)), .agg (brC (HE.getD j hd0))]) w2 /\
   (Instr.entry (.pointer (some ⟨it, 0, none⟩))).run Try.prog w2 = .ok (.tuple #[.string (bs (stK (HE.getD j hd0).s)), .agg (brC (HE.getD j hd0))]) w2 /\
   Below w0.heap.size w0 w2 /\ OwnBr w2 w0.heap.size v (J.map fun j => HE.getD j hd0) /\ w2.heap[it]? = some (.mapIter (some m) HE.length (J ++ [j]).toArray HE.length) /\ w0.heap.size <= w2.heap.size := by
 have hold : ∀ x ∈ (mapEsH HE 0).toArray.toList, x.born < HE.length := fun x hx => by
  obtain ⟨j, hj, rfl⟩ := mapEsH_mem hx
  exact hj
 rcases run_next_at (P := Try.prog) w ty it m HE.length HE.length J.toArray (mapEsH HE 0).toArray HE.length h.it_ hm hold (Nat.le_refl _) with ⟨h1, h2⟩ | ⟨e, h1, w1, hw, h2⟩
 ·refine .inl ⟨fun j hj => ?_, h2⟩
  by_cases hc : j ∈ J
  ·exact hc
  ·exfalso
   have he : leftOf (mapEsH HE 0).toArray J.toArray = #[] := Array.eq_empty_of_size_eq_zero h1
   unfold leftOf at he
   rw [Array.filter_eq_empty_iff] at he
   have hjl : j < (mapEsH HE 0).length := by rw [mapEsH_length]; exact hj
   have h3 := he ((mapEsH HE 0)[j]) (by simp)
   have h4 := mapEsH_get HE 0 j
   rw [List.getElem?_eq_getElem hjl, List.getElem?_eq_getElem hj] at h4
   simp only [Option.map_some, Option.some.injEq, Nat.zero_add] at h4
   rw [h4] at h3
   simp at h3
   exact hc h3
 ·unfold leftOf at h1
  simp only [Array.toList_filter, List.mem_filter] at h1
  obtain ⟨j, hj, rfl⟩ := mapEsH_mem h1.1
  have hjn : j ∉ J := by
   have := h1.2
   simpa using this
  have hit : w1.heap = w.heap := by rcases hw with rfl | rfl <;> rfl
  have hb1 : Below w.heap.size w w1 := by
   rcases hw with rfl | rfl
   ·exact Below.refl _ _
   ·exact (Below.refl _ _).drew
  have hlt : it < w.heap.size := (Array.getElem?_eq_some_iff.1 h.it_).1
  have hmi : m ≠ it := by
   rintro rfl
   have h4 := h.it_
   unfold IsMapH at hm
   rw [hm] at h4; cases h4
  have hg : w.grownBy (ChangeMaps.setBlock w1 it (.mapIter (some m) HE.length (J.toArray.push j) HE.length)) (some it) := by
   refine ⟨hb1.os, hb1.tape, hb1.output, ?_, fun k hk hne => ?_⟩
   ·unfold ChangeMaps.setBlock; simp [hit]
   ·unfold ChangeMaps.setBlock
    simp only [hit]
    rw [Array.getElem?_setIfInBounds_ne (fun e => hne (by rw [e]))]
  have hi2 : (ChangeMaps.setBlock w1 it (.mapIter (some m) HE.length (J.toArray.push j) HE.length)).heap[it]? = some (.mapIter (some m) HE.length (J.toArray.push j) HE.length) := by
   unfold ChangeMaps.setBlock
   simp [hit, hlt]
  have hm2 : IsMapH (ChangeMaps.setBlock w1 it (.mapIter (some m) HE.length (J.toArray.push j) HE.length)) m HE := (hg.block m hm.lt (fun e => by cases e; exact hmi rfl)).trans hm
  have hpush : J.toArray.push j = (J ++ [j]).toArray := by simp
  refine .inr ⟨j, _, hj, hjn, h2, ?_, ?_, ?_, by rw [hi2, hpush], Nat.le_trans h.bel.size hg.size⟩
  ·exact run_entry_at (P := Try.prog) _ it m HE.length J.toArray (mapEsH HE 0).toArray HE.length { key := .string (bs (stK (HE.getD j hd0).s)), val := .agg (brC (HE.getD j hd0)), born := j } hi2 hm2 h1.1 (by
    simp only [mapEsH_borns]
    exact List.nodup_range')
  ·exact h.bel.grown hg (Nat.le_trans h.bel.size (Nat.le_refl _)) (fun k hk => by cases hk; exact h.hit)
  ·refine World.ownsRow.kept h.own hg ?_
   obtain ⟨-, ⟨hv, -⟩ | ⟨g, cap, cur, hv, -, hgg, -⟩⟩ := h.own
   ·left; rw [hv]; rfl
   ·right
    intro e
    rw [hv] at e
    simp only [Value.ownBlock, Option.some.injEq] at e
    subst e
    have h4 := h.it_
    rw [hgg] at h4; cases h4
theorem hdSorted_any (HE : List HdE) (m B : Nat) (w : World) (hm : IsMapH w m HE) (ho : ∀ e ∈ HE, OwnIt w B e.v e.s) (hl : ∀ e ∈ HE, e.s.length <= 1073741824) (hn : HE.length <= 1000000) (hnd : (HE.map HdE.s).Nodup) :
 Calls Try.prog 46 #[.map (some m)] w (HsP HE w) := by
 have HM := Lib.hid hm
 have HO := Lib.hid ho
 have hln := run_len_h w m HE hm
 clear hm ho
 go_enter Try.func46, Try.ntmps46
 go_upto_region 1 with (fail)
 go_wp2_with (first | (refine wpList_make_br rfl _ _ rfl (HE.length : Int) HE.length rfl rfl rfl (by omega) ?_; intro w1 hown hbel; have HOWN := Lib.hid hown; have HBEL := Lib.hid hbel; have hrg := run_range_h w1 m HE (HM.out.later hbel); clear hown hbel hln) | fail)
 have hb2 := (Below.refl w1.heap.size w1).alloc (Nat.le_refl _) (.mapIter (some m) HE.length #[] HE.length)
 have HS0 : Hid (HsS HE m w1.heap.size w [] (.slice (some ⟨w.heap.size, 0, none⟩) 0 HE.length) (w1.alloc (.mapIter (some m) HE.length #[] HE.length))) :=
  ⟨HBEL.out.trans (hb2.mono HBEL.out.size), HOWN.out.later hb2, heap_alloc_new _ _, List.nodup_nil, (fun j hj => by cases hj), HBEL.out.size, ⟨_, _, _, rfl⟩⟩
 clear hb2 hrg
 generalize hit : w1.heap.size = it at HS0 ⊢
 go_loopw [3, 5] (fun v (b : Value) wr => HsL HE m it w v wr) (fun _ _ wr => HE.length - (match wr.heap[it]? with | some (.mapIter _ _ seen _) => seen.size | _ => 0))
 case atStart => exact ⟨[], HS0.out⟩
 case round =>
  obtain ⟨J, hs⟩ := hrel
  have hmr : IsMapH wr m HE := HM.out.later (hs.bel)
  have HS := Lib.hid hs
  obtain ⟨g0, n0, k0, hv0⟩ := hs.nn
  rcases step_next hs hmr 0 with ⟨hall, hnx⟩ | ⟨j, w2, hj, hjn, hnx, hen, hb2, ho2, hi2, hz2⟩
  ·subst hv0
   have hD : (J.map fun j => HE.getD j hd0).Perm HE := by
    have h1 : J.Perm (List.range HE.length) := (List.perm_ext_iff_of_nodup hs.nd List.nodup_range).2 fun a => by
     rw [List.mem_range]
     exact ⟨hs.lt a, hall a⟩
    have h2 := h1.map fun j => HE.getD j hd0
    have h3 : (List.range HE.length).map (fun j => HE.getD j hd0) = HE := by
     apply List.ext_getElem
     ·simp
     ·intro i h1 h2
      simp [h2]
    rwa [h3] at h2
   have hgb : ∃ cur, Blk wr g0 cur 41 := by
    obtain ⟨-, ⟨hv, -⟩ | ⟨g, cap, cur, hv, -, hgg, -⟩⟩ := hs.own
    ·cases hv
    ·cases hv; exact ⟨cur, hgg⟩
   have hown := hs.own
   obtain ⟨a9, c9, hx9, -, -⟩ := hown.row
   injection hx9 with q1 q2 q3
   subst q2
   have HSO := Lib.hid (hdSort_any (J.map fun j => HE.getD j hd0) w.heap.size B k0 g0 wr hown hgb (fun e he => (HO.out e (hD.mem_iff.1 he)).later hs.bel) (fun e he => hl e (hD.mem_iff.1 he)) (by rw [hD.length_eq]; exact hn) ((hD.map HdE.s).nodup_iff.2 hnd))
   have HDP := Lib.hid hD
   have HBR := Lib.hid hs.bel
   have HG0 : Hid (w.heap.size <= g0) := by
    obtain ⟨-, ⟨hv, -⟩ | ⟨g, cap, cur, hv, hb, -, -⟩⟩ := hown
    ·cases hv
    ·cases hv; exact hb
   clear hmr hs hall hD hgb hown q1 q3
   generalize (J.map fun j => HE.getD j hd0) = D at *
   go_wp2_with fail
   refine HSO.out.mono ?_
   rintro e w5 ⟨rfl, D', h1, h2, h3, h4⟩
   have HP : Hid (HsP HE w (.returned (.slice (some ⟨g0, 0, none⟩) D.length k0)) w5) := ⟨_, D', rfl, h1.trans HDP.out, h2, h3, HBR.out.grown h4 HBR.out.size (fun k hk => by cases hk; exact HG0.out)⟩
   clear h1 h2 h3 h4
   go_wp2
   go_ret
   exact HP.out
  ·have HB2 := Lib.hid hb2
   have HO2 := Lib.hid ho2
   have HI2 := Lib.hid hi2
   have HJ := Lib.hid hj
   have HJN := Lib.hid hjn
   have HZ2 := Lib.hid hz2
   generalize he : HE.getD j hd0 = e at hnx hen ⊢
   unfold brC at hnx hen
   clear hb2 ho2 hi2 hj hjn hmr hs hz2
   have HEE : Hid (HE.getD j hd0 = e) := he
   clear he
   go_upto_region 5 with (fail)
   have hb3 := (Below.refl w2.heap.size w2).alloc (Nat.le_refl _) (.cells (brC e) 41)
   have HX3 := Lib.hid (Blk.new w2 (brC e) 41)
   have HB3 := Lib.hid hb3
   clear hb3
   unfold brC at HX3 HB3
   generalize hw3 : w2.alloc (.cells #[.slice e.A e.s.length e.cap, .int .i64 (e.many : Int)] 41) = w3 at *
   have x0 := HX3.out.cell 0
   have x1 := HX3.out.cell 1
   simp at x0 x1
   have hb4 := (Below.refl w3.heap.size w3).alloc (Nat.le_refl _) (.cells (brC e) 41)
   have HB4 := Lib.hid (HB3.out.trans (hb4.mono HB3.out.size))
   have HX4 := Lib.hid (Blk.new w3 (brC e) 41)
   have HJL : Hid ((J.map fun j => HE.getD j hd0).length <= 1000000) := by
    unfold Hid
    have h1 := nodup_lt HS.out.nd HS.out.lt
    rw [List.length_map]; omega
   clear hb4 hw3 hnx hen hv0
   go_wp2_with (refine wpList_append_br rfl _ _ rfl w.heap.size u3 (J.map fun j => HE.getD j hd0) rfl (HO2.out.later HB4.out) w3.heap.size e rfl HX4.out (by have := HJL.out; omega) (Nat.le_trans HZ2.out HB4.out.size) ?_; intro v5 w5 hown5 hg5; have HO5 := Lib.hid hown5; have HG5 := Lib.hid hg5; clear hown5 hg5)
   have hit5 : w5.heap[it]? = some (.mapIter (some m) HE.length (J ++ [j]).toArray HE.length) := by
    have h1 : (w3.alloc (.cells (brC e) 41)).heap[it]? = some (.mapIter (some m) HE.length (J ++ [j]).toArray HE.length) := (HB4.out.block it (Array.getElem?_eq_some_iff.1 HI2.out).1).trans HI2.out
    refine (HG5.out.block it (Array.getElem?_eq_some_iff.1 h1).1 (fun q => ?_)).trans h1
    obtain ⟨-, ⟨hv, -⟩ | ⟨g, cap, cur, hv, -, hgg, -⟩⟩ := HO2.out.later HB4.out
    ·rw [hv] at q; cases q
    ·rw [hv] at q
     simp only [Value.ownBlock, Option.some.injEq] at q
     subst q
     rw [hgg] at h1; cases h1
   refine ⟨⟨J ++ [j], ?_, by rw [List.map_append, List.map_singleton, HEE.out]; exact HO5.out, hit5, ?_, ?_, HS.out.hit, ?_⟩, ?_⟩
   ·have h1 : Below w.heap.size w (w3.alloc (.cells (brC e) 41)) := HB2.out.trans (HB4.out.mono HZ2.out)
    refine h1.grown HG5.out h1.size (fun k hk => ?_)
    have h2 := (HO2.out.later HB4.out).lt k hk
    exact h2.1
   ·exact List.nodup_append.2 ⟨HS.out.nd, by simp, fun a ha b hb q => by rw [List.mem_singleton.1 hb] at q; exact HJN.out (q ▸ ha)⟩
   ·intro i hi
    rcases List.mem_append.1 hi with h | h
    ·exact HS.out.lt i h
    ·rw [List.mem_singleton.1 h]; exact HJ.out
   ·obtain ⟨-, ⟨-, hn0⟩ | ⟨g, cap, cur, hv, -⟩⟩ := HO5.out
    ·simp at hn0
    ·exact ⟨_, _, _, hv⟩
   ·rw [hit5, HS.out.it_]
    have h1 : J.length < HE.length := by
     have h2 : (j :: J).length <= HE.length := nodup_lt (List.nodup_cons.2 ⟨HJN.out, HS.out.nd⟩) fun a ha => by
      rcases List.mem_cons.1 ha with rfl | h
      ·exact HJ.out
      ·exact HS.out.lt a h
     rw [List.length_cons] at h2; omega
    simp
    omega
theorem OwnBr.lower {w : World} {base base' : Nat} {v : Value} {l : List HdE} (h : OwnBr w base v l) (hb : base' <= base) : OwnBr w base' v l := by
 obtain ⟨h0, ⟨hv, hn⟩ | ⟨g, cap, cur, hv, hg, hr⟩⟩ := h
 ·exact ⟨h0, .inl ⟨hv, hn⟩⟩
 ·exact ⟨h0, .inr ⟨g, cap, cur, hv, Nat.le_trans hb hg, hr⟩⟩
def brS (e : HdE) : List Itm × Nat := (e.s, e.many)
theorem mnyE_brs (t : List Itm) : ∀ D : List HdE, mnyB (D.map brS) t = mnyE D t
 | [] => rfl
 | d :: D => by
  rw [List.map_cons]
  unfold mnyE
  show (if t = d.s then d.many else mnyB (D.map brS) t) = _
  rw [mnyE_brs t D]
  by_cases h : t = d.s
  ·rw [if_pos h, if_pos h.symm]
  ·rw [if_neg h, if_neg fun e => h e.symm]
theorem mnyE_perm (t : List Itm) {L M : List HdE} (h : L.Perm M) : (L.map HdE.s).Nodup -> mnyE L t = mnyE M t := by
 induction h with
 | nil => intro _; rfl
 | cons x h ih =>
  intro hn
  rw [List.map_cons, List.nodup_cons] at hn
  unfold mnyE
  rw [ih hn.2]
 | swap x y L =>
  intro hn
  rw [List.map_cons, List.map_cons, List.nodup_cons, List.mem_cons] at hn
  have hne : y.s ≠ x.s := fun e => hn.1 (.inl e)
  unfold mnyE
  unfold mnyE
  by_cases h1 : y.s = t
  ·rw [if_pos h1, if_neg (fun e => hne (by rw [h1, e])), if_pos h1]
  ·rw [if_neg h1]
   by_cases h2 : x.s = t
   ·rw [if_pos h2, if_pos h2]
   ·rw [if_neg h2, if_neg h2, if_neg h1]
 | trans h1 h2 ih1 ih2 =>
  intro hn
  rw [ih1 hn, ih2 ((h1.map HdE.s).nodup_iff.1 hn)]
theorem hd_found {l : List Nd} {s : List Itm} {HE D : List HdE} (hO : HOk HE) (hm : ∀ t, mnyE HE t = min 2 ((rchS l s).count t)) (hp : D.Perm HE) (hs : D.Pairwise fun a b => stC a.s b.s = -1) : D.map brS = hdsL l s := by
 refine brs_ext ?_ (hds_srt l s) ?_ (hds_pos l s) fun t => ?_
 ·unfold HdSrt
  rw [List.pairwise_map]
  exact hs
 ·intro a ha
  obtain ⟨e, he, rfl⟩ := List.mem_map.1 ha
  have := hO.2 e (hp.mem_iff.1 he)
  exact ⟨this.1, this.2.1⟩
 ·rw [mnyE_brs, mnyE_perm t hp ((hp.map HdE.s).nodup_iff.2 hO.1), hm, hds_mny]
theorem hd_many {l : List Nd} (hR : Rgt l) {s : List Itm} (hs : ∀ y ∈ s, HdF l y) {HE : List HdE} (hO : HOk HE) (hm : ∀ t, mnyE HE t = min 2 ((rchS l s).count t)) : HE.length <= s.length * l.length + 1 := by
 have h1 : (HE.map HdE.s).length <= ((hdsL l s).map Prod.fst).length := nodup_among hO.1 fun t ht => by
  rw [show hdsL l s = brsL (rchS l s) from rfl, brsL_keys, <- List.count_pos_iff]
  obtain ⟨e, he, rfl⟩ := List.mem_map.1 ht
  have h2 := hm e.s
  have h3 : mnyE HE e.s = e.many := by
   have hn := hO.1
   clear h2 ht hO hm
   induction HE with
   | nil => cases he
   | cons d L ih =>
    rw [List.map_cons, List.nodup_cons] at hn
    unfold mnyE
    rcases List.mem_cons.1 he with rfl | h
    ·rw [if_pos rfl]
    ·rw [if_neg (fun q => hn.1 (by rw [q]; exact List.mem_map.2 ⟨e, h, rfl⟩)), ih h hn.2]
  have h4 := (hO.2 e he).1
  omega
 rw [List.length_map, List.length_map] at h1
 have := hds_len hR hs
 omega
structure HjR (l : List Nd) (NA : Option Addr) (c wb m : Nat) (w0 : World) (s : List Itm) (j q f' : Nat) (HE' : List HdE) (v' : Value) (w : World) : Prop where
 st : HwS l NA c wb m w0 (s.drop j) f' HE' v' w
 ok : HOk HE'
 q2 : q <= 2
 hit : ∀ t, min 2 (mnyE HE' t + q * hitF (rchS l (s.drop j)) [] t) = min 2 (hitF (rchS l s) [] t)
 nil : min 2 (q * nilF (rchS l (s.drop j))) = min 2 (nilF (rchS l s))
def HjL (l : List Nd) (NA : Option Addr) (c wb m : Nat) (w0 : World) (s : List Itm) (q i : Value) (w : World) : Prop :=
 ∃ (j q' f' : Nat) (HE' : List HdE) (v' : Value), j <= s.length /\ i = .int .i64 (j : Int) /\ q = .int .i64 (q' : Int) /\ HjR l NA c wb m w0 s j q' f' HE' v' w /\ Blk w w0.heap.size #[.slice NA l.length c] 24
theorem HjR.step {l : List Nd} {NA : Option Addr} {c wb m : Nat} {w0 : World} {s : List Itm} {j q f' : Nat} {HE' : List HdE} {v' : Value} {w w' : World} (hR : Rgt l) (hs : ∀ y ∈ s, HdF l y) (h : HjR l NA c wb m w0 s j q f' HE' v' w) (hj : j < s.length) {HE2 : List HdE} {v2 : Value} {f2 : Nat}
 (h2 : HwS l NA c wb m w0 (s.drop (j + 1)) f2 HE2 v2 w') (ho : HOk HE2) (hm : ∀ t, mnyE HE2 t = min 2 (mnyE HE' t + q * hitF (rchS l [s.getD j it0]) (s.drop (j + 1)) t)) :
 HjR l NA c wb m w0 s (j + 1) (min 2 (q * nilF (rchS l [s.getD j it0]))) f2 HE2 v2 w' := by
 have hd : s.drop j = s.getD j it0 :: s.drop (j + 1) := by
  rw [List.drop_eq_getElem_cons hj, List.getD_eq_getElem?_getD, List.getElem?_eq_getElem hj]; rfl
 have hx : HdF l (s.getD j it0) := hs _ (by rw [List.getD_eq_getElem?_getD, List.getElem?_eq_getElem hj]; exact List.getElem_mem hj)
 have hrr : ∀ y ∈ s.drop (j + 1), HdF l y := fun y hy => hs y (List.mem_of_mem_drop hy)
 refine ⟨h2, ho, Nat.min_le_left _ _, fun t => ?_, ?_⟩
 ·have h1 := (pass_round hR hx hrr [] t (h := mnyE HE' t) (w := q)).1
  rw [List.append_nil] at h1
  rw [hm t, h1, <- hd]
  exact h.hit t
 ·rw [(pass_round hR hx hrr [] [] (h := 0) (w := q)).2, <- hd]
  exact h.nil
theorem HjR.end_ {l : List Nd} {NA : Option Addr} {c wb m : Nat} {w0 : World} {s : List Itm} {q f' : Nat} {HE' : List HdE} {v' : Value} {w : World} (h : HjR l NA c wb m w0 s s.length q f' HE' v' w) : HwS l NA c wb m w0 [] f' HE' v' w /\
 (q = 0 -> ∀ t, mnyE HE' t = min 2 ((rchS l s).count t)) /\ ∀ HE2 : List HdE, (∀ t, mnyE HE2 t = if t = [] then min 2 (mnyE HE' [] + q) else mnyE HE' t) -> ∀ t, mnyE HE2 t = min 2 ((rchS l s).count t) := by
 have h1 := h.nil
 have h2 := h.st
 have h4 := h.q2
 rw [List.drop_length] at h1 h2
 rw [(hit_end (l := l) [] []).2, Nat.mul_one] at h1
 have hq : ∀ t, mnyE HE' t = min 2 (hitF (rchS l s) [] t) := fun t => by
  have h5 := h.hit t
  rw [List.drop_length, (hit_end (l := l) [] t).1, Nat.mul_zero, Nat.add_zero] at h5
  have := mny_le h.ok t
  omega
 refine ⟨h2, fun q0 t => ?_, fun HE2 hm t => ?_⟩
 ·have h6 := hit_all (rchS l s) t
  rw [hq t]
  by_cases ht : t = []
  ·rw [if_pos ht] at h6; omega
  ·rw [if_neg ht] at h6; omega
 ·have h6 := hit_all (rchS l s) t
  rw [hm t]
  by_cases ht : t = []
  ·subst ht
   rw [if_pos rfl] at h6 ⊢
   rw [hq []]
   omega
  ·rw [if_neg ht] at h6 ⊢
   rw [hq t]; omega
theorem run_makeMap_h (w : World) : (Instr.makeMap 79 none).run Try.prog w = .ok (.map (some w.heap.size)) (w.alloc (.map #[] 0)) := by
 simp [Instr.makeMap, Sem.run_bind, newObj, Sem.run, Result.andThen]
def HdsP (l : List Nd) (s : List Itm) (w : World) (e : Ending) (w' : World) : Prop :=
 ∃ v D, e = .returned v /\ D.map brS = hdsL l s /\ OwnBr w' w.heap.size v D /\ (∀ d ∈ D, OwnIt w' w.heap.size d.v d.s) /\ Below w.heap.size w w' /\ ∀ d ∈ D, d.s.length <= 1000
theorem hdHeads_any (l : List Nd) (A : Option Addr) (c : Nat) (s : List Itm) (B : Option Addr) (c2 : Nat) (hR : Rgt l) (hlen : l.length <= 300) (htx : Txt l) (hs : ∀ y ∈ s, HdF l y) (hsl : s.length <= 200) (w : World) (hrow : NRow w A l) (hss : ItRow w B s) :
 Calls Try.prog 30 #[.agg #[.slice A l.length c], .slice B s.length c2] w (HdsP l s w) := by
 have HRW := Lib.hid hrow
 have HSS := Lib.hid hss
 have HF := Lib.hid hs
 have hb1 := (Below.refl w.heap.size w).alloc (Nat.le_refl _) (.cells #[.slice A l.length c] 24)
 have HB1 := Lib.hid hb1
 have HD1 := Lib.hid (Blk.new w #[.slice A l.length c] 24)
 have hs1 : (w.alloc (.cells #[.slice A l.length c] 24)).heap.size = w.heap.size + 1 := World.size_alloc _ _
 clear hrow hss hs hb1
 go_enter Try.func30, Try.ntmps30
 go_upto_region 1 with (fail)
 generalize w.alloc (.cells #[.slice A l.length c] 24) = w1 at *
 have e0 := HD1.out.cell 0
 simp at e0
 have hmk := run_makeMap_h w1
 have hm1 : IsMapH (w1.alloc (.map #[] 0)) w1.heap.size [] := heap_alloc_new _ _
 have hb2 := (Below.refl w1.heap.size w1).alloc (Nat.le_refl _) (.map #[] 0)
 have hs2 : (w1.alloc (.map #[] 0)).heap.size = w.heap.size + 2 := by rw [World.size_alloc, hs1]
 generalize w1.alloc (.map #[] 0) = w2 at *
 rw [hs1] at hm1 hmk
 have e1 := (HD1.out.later hb2).cell 0
 simp at e1
 go_upto_region 2 with (fail)
 have hb3 := (Below.refl w2.heap.size w2).alloc (Nat.le_refl _) (.cells (wkC A l c (.slice none 0 0) 0 (w.heap.size + 1)) 81)
 have HB3 := Lib.hid ((HB1.out.trans (hb2.mono HB1.out.size)).trans (hb3.mono (Nat.le_trans HB1.out.size hb2.size)))
 have HW0 : Hid (HwS l A c (w.heap.size + 2) (w.heap.size + 1) w s.reverse 0 [] (.slice none 0 0) w -> True) := fun _ => trivial
 clear HW0
 have HW3 : Hid (HwS l A c (w.heap.size + 2) (w.heap.size + 1) w [] 0 [] (.slice none 0 0) (w2.alloc (.cells (wkC A l c (.slice none 0 0) 0 (w.heap.size + 1)) 81))) :=
  ⟨HB3.out, HRW.out, Blk.new' hs2.symm _ _, OwnIt.nil0 _ _, hm1.later hb3, by omega, by omega, (fun e he => by cases he)⟩
 have HD3 := Lib.hid ((HD1.out.later hb2).later hb3)
 have hs3 : (w2.alloc (.cells (wkC A l c (.slice none 0 0) 0 (w.heap.size + 1)) 81)).heap.size = w.heap.size + 3 := by rw [World.size_alloc, hs2]
 clear hb2 hb3 hm1 e1 e0 hmk HD1
 unfold wkC at HW3 HD3 HB3 hs3
 rw [show ((0 : Nat) : Int) = 0 from rfl] at HW3 HD3 HB3 hs3
 generalize w2.alloc (.cells #[.slice A l.length c, .slice none 0 0, .int .i64 0, .map (some (w.heap.size + 1))] 81) = w3 at *
 have HLY := Lib.hid (hdLay_any l A c (w.heap.size + 2) (w.heap.size + 1) w [] 0 [] (.slice none 0 0) s B c2 w3 HW3.out (by omega) (by simp) (fun w' hk => HSS.out.later (HB3.out.trans hk.bel)))
 go_wp2_with fail
 refine HLY.out.mono ?_
 rintro e w4 ⟨rfl, v4, hw4, hk4⟩
 rw [List.append_nil] at hw4
 have HS0 : Hid (HjL l A c (w.heap.size + 2) (w.heap.size + 1) w s (.int .i64 1) (.int .i64 0) w4) :=
  ⟨0, 1, 0, [], v4, Nat.zero_le _, rfl, rfl, ⟨hw4, ⟨List.nodup_nil, fun e he => by cases he⟩, by omega, fun t => by rw [List.drop_zero, Nat.one_mul, show mnyE [] t = 0 from rfl, Nat.zero_add], by rw [List.drop_zero, Nat.one_mul]⟩, hk4.typ _ _ _ HD3.out (by decide) (by omega)⟩
 clear hw4 hk4 HLY HW3 HD3 HB3 hs3 hs2 hs1 HB1
 have hlz : (l.length : Int) <= 300 := by omega
 go_wp2
 go_loopw [6, 14] (HjL l A c (w.heap.size + 2) (w.heap.size + 1) w s) (fun _ i _ => s.length - (intOf i).toNat)
 case atStart => exact HS0.out
 case round =>
  obtain ⟨j, q, f', HE', v', hj, rfl, rfl, hh, hd⟩ := hrel
  have HH := Lib.hid hh
  have HD := Lib.hid hd
  have HJ := Lib.hid hj
  have e0 := hd.cell 0
  simp at e0
  clear hh hd
  by_cases hlt : j < s.length
  ·have hz : (j : Int) < (s.length : Int) := by omega
   have HLT := Lib.hid hlt
   have c2' := HH.out.st.blk.cell 2
   have f2' := HH.out.st.blk.frozen 2
   simp [wkC] at c2'
   have hdr : s.drop j = s.getD j it0 :: s.drop (j + 1) := by
    rw [List.drop_eq_getElem_cons hlt, List.getD_eq_getElem?_getD, List.getElem?_eq_getElem hlt]; rfl
   have HX : Hid (HdF l (s.getD j it0)) := HF.out _ (by rw [List.getD_eq_getElem?_getD, List.getElem?_eq_getElem hlt]; exact List.getElem_mem hlt)
   have hs9 := HH.out.st.fuel (2 * l.length + 1)
   have hfz : ((2 * l.length + 1 : Nat) : Int) = 2 * (l.length : Int) + 1 := by omega
   rw [hdr, hfz] at hs9
   have hcs := cs_le hR.1.1 HX.out
   have hdl : (s.drop (j + 1)).length <= 200 := by rw [List.length_drop]; omega
   have HPP := Lib.hid (hd_pass_all hR (by omega) htx (2 * l.length) (s.getD j it0) (s.drop (j + 1)) (2 * l.length + 1) HE' v' q _ HX.out (fun y hy => HF.out y (List.mem_of_mem_drop hy)) hs9 HH.out.ok HH.out.q2 (by omega) (by omega) (fun hq => ⟨by omega, by omega, by omega⟩))
   have HKD := Lib.hid (HdK.set (w := wr) HH.out.st.hwb 2 (.int .i64 (2 * (l.length : Int) + 1)))
   clear hs9 hdr hlt hdl hj hcs hfz
   go_upto_region 7 with (fail)
   generalize wr.setCell ⟨w.heap.size + 2, 2, none⟩ (.int .i64 (2 * (l.length : Int) + 1)) = w5 at HPP HKD ⊢
   go_wp2_with fail
   refine HPP.out.mono ?_
   rintro e w6 ⟨HE2, v6, f2, rfl, g1, g2, g3, g4, g5, g6⟩
   have HN := Lib.hid (HH.out.step hR HF.out HLT.out g1 g3 g4)
   have HD6 := Lib.hid ((HKD.out.trans g2).typ _ _ _ HD.out (by decide) (by omega))
   clear g1 g2 g3 g4 g5 g6 HPP HKD e0 c2' f2'
   generalize min 2 (q * nilF (rchS l [s.getD j it0])) = q2 at *
   go_wp2
   go_roundw
   case rel => exact ⟨j + 1, q2, f2, HE2, v6, HLT.out, by go_num, rfl, HN.out, HD6.out⟩
   case measure => have := HLT.out; simp [intOf] <;> omega
  ·obtain rfl : j = s.length := by omega
   have hz : ¬ ((s.length : Nat) : Int) < (s.length : Int) := by omega
   obtain ⟨h1, h2, h3⟩ := HH.out.end_
   have hq2 := HH.out.q2
   by_cases hq0 : q = 0
   ·subst hq0
    have hcnt := h2 rfl
    have HOKK := HH.out.ok
    have HFD := Lib.hid (fun D => hd_found (D := D) HOKK hcnt)
    have HSO := Lib.hid (hdSorted_any HE' (w.heap.size + 1) w.heap.size wr h1.map (fun e he => (h1.ent e he).1) (fun e he => by have := (HOKK.2 e he).2.2; omega) (by have := hd_many hR HF.out HOKK hcnt; have : s.length * l.length <= 200 * 300 := Nat.mul_le_mul (by omega) (by omega); omega) HOKK.1)
    have HEN := Lib.hid (fun e he => (h1.ent e he).1)
    have HBE := Lib.hid h1.bel
    have c3 := h1.blk.cell 3
    simp [wkC] at c3
    clear h1 h2 h3 hcnt hlt hj
    go_wp2_with fail
    refine HSO.out.mono ?_
    rintro e w9 ⟨v5, D, rfl, k1, k2, k3, k4⟩
    obtain ⟨a5, c5, hv5, -, -⟩ := k3.row
    subst hv5
    have HP : Hid (HdsP l s w (.returned (.slice a5 D.length c5)) w9) := ⟨_, D, rfl, HFD.out D k1 k2, OwnBr.lower k3 HBE.out.size, fun d hd => (HEN.out d (k1.mem_iff.1 hd)).later k4, HBE.out.trans (k4.mono HBE.out.size), fun d hd => ((Lib.hid HOKK).out.2 d (k1.mem_iff.1 hd)).2.2⟩
    clear k1 k2 k3 k4
    go_wp2
    go_ret
    exact HP.out
   ·have hqp : (0 : Int) < (q : Int) := by omega
    have HAD := Lib.hid (hdWadd_any l A c (w.heap.size + 2) (w.heap.size + 1) w [] f' HE' v' q ⟨by omega, hq2⟩ wr h1 (by simp) (fun x hx => by cases hx) HH.out.ok)
    have HH3 := Lib.hid h3
    clear h1 h2 h3
    go_wp2_with fail
    refine HAD.out.mono ?_
    rintro e w6 ⟨rfl, HE6, h1, hk6, HOKK, hm6⟩
    have hcnt := HH3.out HE6 hm6
    have h2 : True := trivial
    have h3 : True := trivial
    clear hk6 hm6 HAD HH3 e0
    have HFD := Lib.hid (fun D => hd_found (D := D) HOKK hcnt)
    have HSO := Lib.hid (hdSorted_any HE6 (w.heap.size + 1) w.heap.size w6 h1.map (fun e he => (h1.ent e he).1) (fun e he => by have := (HOKK.2 e he).2.2; omega) (by have := hd_many hR HF.out HOKK hcnt; have : s.length * l.length <= 200 * 300 := Nat.mul_le_mul (by omega) (by omega); omega) HOKK.1)
    have HEN := Lib.hid (fun e he => (h1.ent e he).1)
    have HBE := Lib.hid h1.bel
    have c3 := h1.blk.cell 3
    simp [wkC] at c3
    clear h1 h2 h3 hcnt hlt hj
    go_wp2_with fail
    refine HSO.out.mono ?_
    rintro e w9 ⟨v5, D, rfl, k1, k2, k3, k4⟩
    obtain ⟨a5, c5, hv5, -, -⟩ := k3.row
    subst hv5
    have HP : Hid (HdsP l s w (.returned (.slice a5 D.length c5)) w9) := ⟨_, D, rfl, HFD.out D k1 k2, OwnBr.lower k3 HBE.out.size, fun d hd => (HEN.out d (k1.mem_iff.1 hd)).later k4, HBE.out.trans (k4.mono HBE.out.size), fun d hd => ((Lib.hid HOKK).out.2 d (k1.mem_iff.1 hd)).2.2⟩
    clear k1 k2 k3 k4
    go_wp2
    go_ret
    exact HP.out
def StV (s : List Itm) (v : Value) (w : World) : Prop := ∃ A cap, v = .slice A s.length cap /\ s.length <= cap /\ ItRow w A s
theorem StV.later (s : List Itm) (v : Value) (w w' : World) (h : StV s v w) (hb : Below w.heap.size w w') : StV s v w' := by
 obtain ⟨A, cap, h1, h2, h3⟩ := h
 exact ⟨A, cap, h1, h2, h3.later hb⟩
structure BrA (T : Brs) (A : Option Addr) (D : List HdE) (w : World) : Prop where
 brs : D.map brS = T
 row : BrRow w A D
 cap : ∀ d ∈ D, d.s.length <= d.cap /\ d.s.length <= 1000
 its : ∀ d ∈ D, ItRow w d.A d.s
theorem BrA.later {T : Brs} {A : Option Addr} {D : List HdE} {w w' : World} (h : BrA T A D w) (hb : Below w.heap.size w w') : BrA T A D w' := ⟨h.brs, h.row.later hb, h.cap, fun d hd => (h.its d hd).later hb⟩
def BrV (T : Brs) (v : Value) (w : World) : Prop := ∃ A cap D, v = .slice A D.length cap /\ BrA T A D w
theorem BrV.later (T : Brs) (v : Value) (w w' : World) (h : BrV T v w) (hb : Below w.heap.size w w') : BrV T v w' := by
 obtain ⟨A, cap, D, h1, h2⟩ := h
 exact ⟨A, cap, D, h1, h2.later hb⟩
theorem own_it {w : World} {B : Nat} {d : HdE} (h : OwnIt w B d.v d.s) : d.s.length <= d.cap /\ ItRow w d.A d.s := by
 obtain ⟨a, cap, hv, hc, hr⟩ := OwnIt.row h
 unfold HdE.v at hv
 cases hv
 exact ⟨hc, hr⟩
theorem itF_iff {l : List Nd} {x : Itm} (h : itF l x = true) : HdF l x := by
 unfold itF at h
 by_cases h5 : x.kind = 5
 ·rw [if_pos h5] at h
  simp only [Bool.and_eq_true, decide_eq_true_eq] at h
  exact ⟨fun _ => ⟨h.1.1.1, h.2, h.1.1.2, h.1.2⟩, fun k => absurd h5 k, ⟨by omega, by omega⟩, fun k => by omega, fun k => by omega, fun k => by omega, fun k => by omega⟩
 ·rw [if_neg h5] at h
  by_cases hn : x.node < 0 \/ (l.length : Int) <= x.node
  ·rw [if_pos hn] at h; cases h
  ·rw [if_neg hn] at h
   have hn2 : 0 <= x.node /\ x.node < (l.length : Int) := by omega
   simp only at h
   by_cases h1 : x.kind = 1
   ·rw [if_pos h1] at h
    simp only [Bool.and_eq_true, decide_eq_true_eq] at h
    exact ⟨fun k => absurd k h5, fun _ => hn2, ⟨by omega, by omega⟩, fun _ => h, fun k => by omega, fun k => by omega, fun k => by omega⟩
   ·rw [if_neg h1] at h
    by_cases h2 : x.kind = 2
    ·rw [if_pos h2] at h
     simp only [Bool.and_eq_true, decide_eq_true_eq] at h
     exact ⟨fun k => absurd k h5, fun _ => hn2, ⟨by omega, by omega⟩, fun k => by omega, fun _ => ⟨h.1.1.1, h.1.1.2, h.1.2, h.2⟩, fun k => by omega, fun k => by omega⟩
    ·rw [if_neg h2] at h
     by_cases h3 : x.kind = 3
     ·rw [if_pos h3] at h
      simp only [Bool.and_eq_true, decide_eq_true_eq] at h
      exact ⟨fun k => absurd k h5, fun _ => hn2, ⟨by omega, by omega⟩, fun k => by omega, fun k => by omega, fun _ => ⟨h.1.1.1, h.2, h.1.1.2, h.1.2⟩, fun k => by omega⟩
     ·rw [if_neg h3] at h
      by_cases h4 : x.kind = 4
      ·rw [if_pos h4] at h
       simp only [Bool.and_eq_true, decide_eq_true_eq] at h
       exact ⟨fun k => absurd k h5, fun _ => hn2, ⟨by omega, by omega⟩, fun k => by omega, fun k => by omega, fun k => by omega, fun _ => ⟨h.1.1.1, h.2, h.1.1.2, h.1.2⟩⟩
      ·rw [if_neg h4] at h; cases h
theorem stF_form {l : List Nd} {s : List Itm} (h : stF l s = true) : ∀ y ∈ s, HdF l y := fun y hy => itF_iff (List.all_eq_true.1 h y hy)
end Go.Proofs.Ytidoofdofdhjpaa
