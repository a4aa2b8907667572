/- A region that draws, in a round of a range over a function. Laws. -/
import Derived.Test.YtidoofdofdhjpaaM03
import Derived.Test.YtidoofdofdhjpaaM10
import Derived.Test.YtidoofdofdhjpaaM36
import Derived.Test.YtidoofdofdhjpaaM44
import Derived.Test.YtidoofdofdhjpaaM34
import Derived.RangeFuncNested
import Derived.RangeFuncBound
import Derived.RangeFuncCalls
import Derived.RangeFuncLeaves
import Derived.Shelf.SlicesQ.Reverse
namespace Go.Proofs.Ytidoofdofdhjpaa
open Go Go.RowKit
set_option linter.unusedVariables false
set_option linter.unusedSimpArgs false
set_option maxRecDepth 100000

theorem upon_round {l n : Nat} {P : Program} {o : Oper} {a : Act} {next next' : Act → World → Prop} {Q : Exit → Act → World → Prop} (hno : ¬ LetsOut Q) (hn : ∀ a w, next a w → next' a w) {r : Result Next} (h : o.upon P a next Q r) : o.uponIn (Fence.wide.inRound l) n P a next' Q r := by
  unfold Oper.upon at h
  split at h
  · exact hn _ _ h
  · exact hn _ _ h
  · exact hn _ _ h
  · refine ⟨fun hd => (by cases hd), CallsIn.inRound l (callsIn_wide.2 (h.mono ?_))⟩
    intro e w' hr
    cases e with
    | returned v => exact hn _ _ hr
    | panicked c => exact hr
    | outgrown => exact absurd hr hno
  · refine ⟨fun hd => (by cases hd), fun c cs _ => ?_⟩
    obtain ⟨v, w', hr, hs⟩ := h c cs
    exact ⟨v, w', hn _ _ hr, stepsIn_wide.2 hs⟩
  · exact h
  · exact h.elim
theorem ops_round {l n : Nat} {P : Program} {ops : Array Oper} {Q : Exit → Act → World → Prop} (hno : ¬ LetsOut Q) (hnd : ∀ (i : Nat) (o : Oper), ops[i]? = some o → ∀ c, o.op ≠ .defer c) : ∀ (sched : List Nat) (a : Act) (w : World), wpOps P ops Q sched a w → wpOpsIn (Fence.wide.inRound l) n P ops Q sched a w
  | [], a, w, h => h
  | i :: rest, a, w, h => by
    unfold wpOps at h
    unfold wpOpsIn
    cases ho : ops[i]? with
    | none => rw [ho] at h; exact ops_round hno hnd rest a w h
    | some o =>
      rw [ho] at h
      simp only at h ⊢
      split at h
      · rename_i hw
        rw [if_pos hw]
        refine ⟨fun _ _ => trivial, ?_⟩
        rcases h with h | ⟨-, h⟩
        · unfold Oper.wp at h
          rw [Oper.semAt_eq _ _ _ (hnd i o ho)]
          exact upon_round hno (fun a w => ops_round hno hnd rest a w) h
        · exact absurd h hno
      · rename_i hw
        rw [if_neg hw]
        exact ⟨fun _ _ => trivial, ops_round hno hnd rest _ w h⟩
def noDefer (ops : Array Oper) : Bool := ops.toList.all fun o => match o.op with
  | .defer _ => false
  | _ => true
theorem noDefer_of {ops : Array Oper} (h : noDefer ops = true) : ∀ (i : Nat) (o : Oper), ops[i]? = some o → ∀ c, o.op ≠ .defer c := fun i o ho c e => by
  unfold noDefer at h
  have hm : o ∈ ops.toList := List.mem_of_getElem? (by rw [Array.getElem?_toList]; exact ho)
  have := List.all_eq_true.1 h o hm
  rw [e] at this
  cases this
end Go.Proofs.Ytidoofdofdhjpaa
/- A region that draws, in a round of a range over a function, its last operation left over, over any relation of worlds. Laws. -/
namespace Go.Proofs.Ytidoofdofdhjpaa.G
open Go Go.RowKit
set_option linter.unusedVariables false
set_option linter.unusedSimpArgs false
set_option maxRecDepth 100000

theorem round_region_last {P : Program} {Q : Exit → Act → World → Prop} {ops : Array Oper} {a0 : Act} {R : World → World → Prop} {l n : Nat} {id : Nat} {w : World} (hR : ∀ w w', Below w.heap.size w w' → R w w') (S : World → Prop) (hSt : ∀ w w', S w → R w w' → S w') (plan : List (List (Tmp × Option Nat))) {o : Oper} (hops : ops.toList.getLast? = some o)
    (hm : P.follows .mixedOrders = true) (hck : okRegion ops a0.tmps.size = true) (hlast : lastOk ops = true) (hnd : noDefer ops = true) (hno : ¬ LetsOut Q)
    (hplan : ops.toList.dropLast.map (readsOf ops) = plan) (hS : S w) (h : Chain R P Q (fun a w => o.wp P a w (fun a w => Q .normal a w) Q) a0 S ops.toList.dropLast (ops.toList.dropLast.zip plan) 0 []) : (Code.region id ops true).wpIn (Fence.wide.inRound l) n P Q a0 w := by
  subst hplan
  obtain ⟨front, hf⟩ : ∃ front, ops.toList = front ++ [o] := by
    rw [List.getLast?_eq_some_iff] at hops
    exact hops
  have hdl : ops.toList.dropLast = front := by rw [hf]; simp
  rw [hdl] at h
  have hsz : ops.size = front.length + 1 := by rw [← Array.length_toList, hf]; simp
  have ht : ops.toList.take front.length = front := by rw [hf]; simp
  have ho : ops[front.length]? = some o := by
    rw [← Array.getElem?_toList, hf]; simp
  have hany : ∀ w, S w → wpAny P .any ops Q ops.size (Array.replicate ops.size false) a0 w := fun w hS => by
    refine any_of_chain hR (K := fun a w => o.wp P a w (fun a w => Q .normal a w) Q) (nf := front.length) hSt hck (by omega) (.inr (.inl ⟨hsz.symm, o, ho, ?_, ?_, fun _ _ h => h⟩)) hS (by rw [ht]; exact h)
    · unfold lastOk at hlast
      rw [show ops.size - 1 = front.length by omega, ho] at hlast
      simp only [Bool.and_eq_true] at hlast
      simpa using hlast.1
    · intro j hj
      unfold lastOk at hlast
      rw [show ops.size - 1 = front.length by omega, ho] at hlast
      simp only [Bool.and_eq_true] at hlast
      exact all_range hlast.2 hj
  exact wpIn_region_draw fun t => by
    simp only [Region.schedule, hm, Bool.true_or, if_true]
    exact ops_round hno (noDefer_of hnd) _ _ _ (wpAny_sound ops.size t _ a0 _ (hany w.drew (hSt w _ hS (hR _ _ (Below.refl _ _).drew))))
end Go.Proofs.Ytidoofdofdhjpaa.G
/- Items laid ahead: walked. -/
namespace Go.Proofs.Ytidoofdofdhjpaa
open Go Go.RowKit
set_option linter.unusedVariables false
set_option linter.unusedSimpArgs false
set_option maxRecDepth 100000
set_option maxHeartbeats 16000000
attribute [local go_sem] Oper.semAt_some

section
variable {l : List Nd} {NA : Option Addr} {c wb m : Nat} {w0 w w1 w' : World} {Ah : List Itm} {f : Nat} {HE : List HdE} {v v' : Value}
theorem putObj_gb (w : World) (k : Nat) (o : Obj) : w.grownBy (w.putObj k o) (some k) := ⟨rfl, rfl, rfl, by rw [World.putObj_size]; exact Nat.le_refl _, fun j hj hne => World.putObj_heap_other fun e => hne (by rw [e])⟩
theorem not_cells {k b : Nat} {o : Obj} {cs : Array Value} {t : TypeId} (ho : w.heap[k]? = some o) (hc : o.isCells = false) (hb : Blk w b cs t) : b ≠ k := by
  rintro rfl
  unfold Blk at hb
  rw [ho] at hb
  have e := Option.some.inj hb
  subst e
  cases hc
theorem HdK.putObj {k : Nat} {o o' : Obj} (hB : w0.heap.size ≤ k) (ho : w.heap[k]? = some o) (hc : o.isCells = false) : HdK w0 wb w (w.putObj k o') :=
  ⟨⟨rfl, rfl, rfl, by rw [World.putObj_size]; exact Nat.le_refl _, fun j hj => World.putObj_heap_other (by omega)⟩, fun b cs t hb _ _ => (World.putObj_heap_other (not_cells ho hc hb)).trans hb⟩
theorem HwS.putObj (h : HwS l NA c wb m w0 Ah f HE v w) {k : Nat} {o o' : Obj} (hB : w0.heap.size ≤ k) (hm : m < k) (ho : w.heap[k]? = some o) (hc : o.isCells = false) : HwS l NA c wb m w0 Ah f HE v (w.putObj k o') := by
  have hkp : ∀ {u : Value} {x : List Itm}, OwnIt w w0.heap.size u x → OwnIt (w.putObj k o') w0.heap.size u x := fun hu => World.ownsRow.kept hu (putObj_gb w k o') (.inr (fun e => by
    obtain ⟨cur, h1, -⟩ := own_at hu e
    exact not_cells ho hc h1 rfl))
  exact ⟨h.bel.trans (HdK.putObj (wb := wb) hB ho hc).bel, h.row, (World.putObj_heap_other (not_cells ho hc h.blk)).trans h.blk, hkp h.own, (World.putObj_heap_other (by omega)).trans h.map, h.hwb, h.hm, fun e he => ⟨hkp (h.ent e he).1, (h.ent e he).2⟩⟩
theorem keeps_grown {x : List Itm} {B B' : Nat} (h : OwnIt w B v x) (hg : w.grownBy w' v.ownBlock) : KeepsFrom B' w w' := ⟨hg.size, fun k o hB ho hc => (hg.block k (Array.getElem?_eq_some_iff.1 ho).1 (fun e => by
    obtain ⟨cur, h1, -⟩ := own_at h e.symm
    exact not_cells ho hc h1 rfl)).trans ho⟩
end
/-- What the laying of items leaves. -/
structure HlS (l : List Nd) (NA : Option Addr) (c wb m : Nat) (w0 : World) (f : Nat) (HE : List HdE) (A : Option Addr) (N c2 : Nat) (ws : World) (Ah : List Itm) (v : Value) (w : World) : Prop where
  s : HwS l NA c wb m w0 Ah f HE v w
  k : HdK w0 wb ws w
  bp : Blk w ws.heap.size #[.pointer (some ⟨wb, 0, none⟩)] 104
  bs : Blk w (ws.heap.size + 1) #[.slice A N c2] 25
section
variable {l : List Nd} {NA : Option Addr} {c wb m : Nat} {w0 ws w w1 w' : World} {Ah : List Itm} {f : Nat} {HE : List HdE} {v v' : Value} {A : Option Addr} {N c2 : Nat}
theorem HlS.later (h : HlS l NA c wb m w0 f HE A N c2 ws Ah v w) (hb : Below w.heap.size w w') : HlS l NA c wb m w0 f HE A N c2 ws Ah v w' :=
  ⟨h.s.later hb, h.k.trans (.of h.s.size hb), h.bp.later hb, h.bs.later hb⟩
theorem HlS.putObj (h : HlS l NA c wb m w0 f HE A N c2 ws Ah v w) {k : Nat} {o o' : Obj} (hB : ws.heap.size ≤ k) (hm : m < ws.heap.size) (h0 : w0.heap.size ≤ ws.heap.size) (ho : w.heap[k]? = some o) (hc : o.isCells = false) : HlS l NA c wb m w0 f HE A N c2 ws Ah v (w.putObj k o') :=
  ⟨h.s.putObj (by omega) (by omega) ho hc, h.k.trans (.putObj (by omega) ho hc), (World.putObj_heap_other (not_cells ho hc h.bp)).trans h.bp, (World.putObj_heap_other (not_cells ho hc h.bs)).trans h.bs⟩
end
/-- What an append, and new memory, leave. -/
def LyI (B : Nat) (v : Value) (l : List Itm) (x : Itm) (w w' : World) : Prop := w.grownBy w' v.ownBlock ∧ (OwnIt w B v l → OwnIt w' B v l) ∧ (∀ u, OwnIt w B u (l ++ [x]) → OwnIt w' B u (l ++ [x]))
theorem gb_ofI {w w' : World} {ro : Option Nat} (h : Below w.heap.size w w') : w.grownBy w' ro := ⟨h.os, h.tape, h.output, h.size, fun k hk _ => h.block k hk⟩
theorem LyI.of {B : Nat} {v : Value} {l : List Itm} {x : Itm} (w w' : World) (hb : Below w.heap.size w w') : LyI B v l x w w' := ⟨gb_ofI hb, fun h => h.later hb, fun u h => h.later hb⟩
/-- The region's state: what is ahead, and the item that is laid. -/
structure HlR (wb : Nat) (w0 ws : World) (Ah : List Itm) (x : Itm) (xb pb : Nat) (v : Value) (NA : Option Addr) (l : List Nd) (c f m : Nat) (w : World) : Prop where
  g : ws.grownBy w v.ownBlock
  own : OwnIt w w0.heap.size v Ah.reverse
  blk : Blk w wb (wkC NA l c v f m) 81
  bx : Blk w xb (itV x) 44
  ne : v.ownBlock ≠ some xb
  bp : Blk w pb #[.pointer (some ⟨wb, 0, none⟩)] 104
  sz : ws.heap.size ≤ w.heap.size
section
variable {l : List Nd} {NA : Option Addr} {c wb m : Nat} {w0 ws w w1 w' : World} {Ah : List Itm} {f : Nat} {HE : List HdE} {v v' : Value} {x : Itm} {bx bp : Nat}
theorem HlR.grow (h : HlR wb w0 ws Ah x bx bp v NA l c f m w) (hr : LyI w0.heap.size v Ah.reverse x w w') : HlR wb w0 ws Ah x bx bp v NA l c f m w' :=
  ⟨grown_trans h.g hr.1, hr.2.1 h.own, (hr.1.block _ h.blk.lt (fun e => own_not h.own h.blk (by decide) e.symm)).trans h.blk, (hr.1.block _ h.bx.lt (fun e => h.ne e.symm)).trans h.bx, h.ne, (hr.1.block _ h.bp.lt (fun e => own_not h.own h.bp (by decide) e.symm)).trans h.bp, Nat.le_trans h.sz hr.1.size⟩
end
def NwX (v : Value) (x : Itm) (u : Value) (w : World) : Prop := ∃ b, u = .slice (some ⟨b, 0, none⟩) 1 1 ∧ Blk w b (itV x) 44 ∧ v.ownBlock ≠ some b
theorem NwX.grow {B : Nat} {v : Value} {l : List Itm} (x : Itm) (u : Value) (w w' : World) (h : NwX v x u w) (hr : LyI B v l x w w') : NwX v x u w' := by
  obtain ⟨b, h1, h2, h3⟩ := h
  exact ⟨b, h1, (hr.1.block _ h2.lt (fun e => h3 e.symm)).trans h2, h3⟩
def ApX (B n : Nat) (v : Value) (l : List Itm) (x : Itm) (u : Value) (w : World) : Prop := OwnIt w B u (l ++ [x]) ∧ (u.ownBlock = v.ownBlock ∨ ∃ g', u.ownBlock = some g' ∧ n ≤ g')
theorem ApX.grow {B n : Nat} {v : Value} (l : List Itm) (x : Itm) (u : Value) (w w' : World) (h : ApX B n v l x u w) (hr : LyI B v l x w w') : ApX B n v l x u w' := ⟨hr.2.2 u h.1, h.2⟩
def HlI (l : List Nd) (NA : Option Addr) (c wb m : Nat) (w0 : World) (f : Nat) (HE : List HdE) (A : Option Addr) (c2 : Nat) (r : List Itm) (ws : World) (Ah : List Itm) (k : Nat) (w : World) : Prop :=
  k ≤ r.length ∧ ∃ v, HlS l NA c wb m w0 f HE A r.length c2 ws (r.drop (r.length - k) ++ Ah) v w
/-- The act of a round: the item in its box. -/
def HlA (N : Nat) (A : Option Addr) (c2 wb n k bx : Nat) (x : Itm) : Act := { tmps := #[.pointer (some ⟨wb, 0, none⟩), .slice A N c2, .pointer (some ⟨n, 0, none⟩), undef, undef, .pointer (some ⟨bx, 0, none⟩), .slice A N c2, .func (.func 84) #[] #[.pointer (some ⟨n + 1, 0, none⟩)], .int .i64 ((N - k : Nat) - 1 : Int), .agg #[.int .i64 x.kind, .int .i64 x.node, .int .i64 x.lo, .int .i64 x.hi], undef, undef, undef, undef, undef, undef, undef, undef, undef, undef], defers := [] }
def HlJ (l : List Nd) (NA : Option Addr) (c wb m : Nat) (w0 : World) (f : Nat) (HE : List HdE) (A : Option Addr) (c2 : Nat) (r : List Itm) (ws : World) (Ah : List Itm) (k : Nat) (a : Act) (w : World) : Prop :=
  k < r.length ∧ ∃ (bx : Nat) (v : Value), HlS l NA c wb m w0 f HE A r.length c2 ws (r.drop (r.length - k) ++ Ah) v w ∧ Blk w bx (itV (r.getD (r.length - k - 1) it0)) 44 ∧ v.ownBlock ≠ some bx ∧ a = HlA r.length A c2 wb ws.heap.size k bx (r.getD (r.length - k - 1) it0)
theorem drop_next {r : List Itm} {k : Nat} (hk : k < r.length) : r.drop (r.length - (k + 1)) = r.getD (r.length - k - 1) it0 :: r.drop (r.length - k) := by
  have h : r.length - (k + 1) < r.length := by omega
  rw [List.drop_eq_getElem_cons h, List.getD_eq_getElem?_getD, List.getElem?_eq_getElem (by omega)]
  simp only [Option.getD_some]
  congr 2; omega
def HlP (l : List Nd) (NA : Option Addr) (c wb m : Nat) (w0 : World) (f : Nat) (HE : List HdE) (Ah : List Itm) (w : World) (e : Ending) (w' : World) : Prop :=
  e = .returned (.tuple #[]) ∧ ∃ v, HwS l NA c wb m w0 Ah f HE v w' ∧ HdK w0 wb w w'
theorem hdLay_any (l : List Nd) (NA : Option Addr) (c wb m : Nat) (w0 : World) (Ah : List Itm) (f : Nat) (HE : List HdE) (v : Value) (r : List Itm) (A : Option Addr) (c2 : Nat) (w : World) (hs : HwS l NA c wb m w0 Ah f HE v w) (hr : r.length ≤ 1000) (ha : Ah.length ≤ 100000)
    (HR : ∀ w', HdK w0 wb w w' → ItRow w' A r) :
    Calls Try.prog 43 #[.pointer (some ⟨wb, 0, none⟩), .slice A r.length c2] w (HlP l NA c wb m w0 f HE (r ++ Ah) w) := by
  have HS := Lib.hid hs
  have HRR := Lib.hid HR
  have hbA := (Below.refl w.heap.size w).alloc (Nat.le_refl _) (.cells #[.pointer (some ⟨wb, 0, none⟩)] 104)
  have hzA := Blk.new w #[.pointer (some ⟨wb, 0, none⟩)] 104
  have hsA : (w.alloc (.cells #[.pointer (some ⟨wb, 0, none⟩)] 104)).heap.size = w.heap.size + 1 := World.size_alloc _ _
  clear hs HR
  refine (callsIn_wide (n := 3)).1 ?_
  refine callsIn_of_wp_marks Try.func43 rfl trivial ?_
  refine wpIn_wide.2 ?_
  simp only [Try.ntmps43, List.size_toArray, List.length_cons, List.length_nil, Nat.reduceAdd, Nat.reduceSub, Array.replicate_succ, Array.replicate_zero, List.push_toArray, List.append_toArray, List.nil_append, List.cons_append]
  go_upto_region 1 with (fail)
  generalize w.alloc (.cells #[.pointer (some ⟨wb, 0, none⟩)] 104) = wA at *
  go_wp2_with fail
  refine (backwardI_any r.length c2 A wA).mono ?_; rintro e wB ⟨rfl, hwB⟩
  subst hwB
  have hbC := (Below.refl wA.heap.size wA).alloc (Nat.le_refl _) (.cells #[.slice A r.length c2] 25)
  have hzC := Blk.new' hsA.symm #[.slice A r.length c2] 25
  have hsC : (wA.alloc (.cells #[.slice A r.length c2] 25)).heap.size = w.heap.size + 2 := by rw [World.size_alloc, hsA]
  rw [hsA]
  generalize wA.alloc (.cells #[.slice A r.length c2] 25) = wC at *
  have HBC := Lib.hid (hbA.trans (hbC.mono hbA.size))
  have HSC : Hid (HlS l NA c wb m w0 f HE A r.length c2 w Ah v wC) := ⟨HS.out.later HBC.out, .of HS.out.size HBC.out, hzA.later hbC, hzC⟩
  have HSZ := Lib.hid hsC
  have HMW : Hid (m < w.heap.size) := HS.out.map.lt
  have H0 : Hid (w0.heap.size ≤ w.heap.size) := HS.out.size
  clear hbA hzA hsA hbC hzC hsC
  go_wp2
  rw [show w.heap.size + 1 = w.heap.size + 1 from rfl]
  have HI0 : Hid (∀ k' W', HlI l NA c wb m w0 f HE A c2 r w Ah k' W' → W'.cell? ⟨w.heap.size + 1, 0, none⟩ = some (.slice A r.length c2) ∧ ∀ j, j < r.length → ∃ b off, A = some ⟨b, off, none⟩ ∧ At4 W' b (off + j * 4) (r.getD j it0)) := fun k' W' h => by
    obtain ⟨-, u, hu⟩ := h
    refine ⟨by rw [hu.bs.cell]; rfl, fun j hj => ?_⟩
    obtain ⟨b, o, e1, -, e2⟩ := (HRR.out W' hu.k).four hj
    exact ⟨b, o, e1, e2⟩
  have HIP : Hid (∀ k' W' l' o o', HlI l NA c wb m w0 f HE A c2 r w Ah k' W' → wC.heap.size ≤ l' → W'.heap[l']? = some o → o.isCells = false → HlI l NA c wb m w0 f HE A c2 r w Ah k' (W'.putObj l' o')) := fun k' W' l' o o' h hl ho hc => by
    obtain ⟨h1, u, hu⟩ := h
    exact ⟨h1, u, hu.putObj (Nat.le_trans HBC.out.size hl) HMW.out H0.out ho hc⟩
  have HI6 : Hid (∀ o o', HlI l NA c wb m w0 f HE A c2 r w Ah 0 ((wC.alloc o).alloc o')) := fun o o' => by
    have hb := (Below.refl wC.heap.size wC).alloc (Nat.le_refl _) o
    have hb2 := hb.alloc hb.size o'
    refine ⟨Nat.zero_le _, v, ?_⟩
    rw [Nat.sub_zero, List.drop_length, List.nil_append]
    exact HSC.out.later hb2
  refine (wpIn_wide (n := 3)).1 ?_
  refine range_boxedI (gf := 84) (lb := #[.pointer (some ⟨w.heap.size + 1, 0, none⟩)]) (N := r.length) (ag := bwI r.length r) (I := HlI l NA c wb m w0 f HE A c2 r w Ah) (I1 := HlJ l NA c wb m w0 f HE A c2 r w Ah) rfl (enters_of Try.func84 (by kernel_rfl) rfl) (backI_yields (w.heap.size + 1) r.length c2 A r _ (by omega) HI0.out) (fun _ => rfl) HIP.out ?i1 HI6.out ?assign ?body ?done
  case i1 =>
    intro k' a1 W' l' o o' h hl ho hc
    obtain ⟨h1, bx, u, h2, h3, h4, h5⟩ := h
    exact ⟨h1, bx, u, h2.putObj (Nat.le_trans HBC.out.size hl) HMW.out H0.out ho hc, (World.putObj_heap_other (not_cells ho hc h3)).trans h3, h4, h5⟩
  case assign =>
    intro l' k' W' hk' hI'
    have HI1 := Lib.hid hI'
    have HK1 := Lib.hid hk'
    clear hI' hk' HI0 HIP HI6
    have HJJ : Hid (∀ (a1 : Act) (W2 : World), W2 = W'.alloc (.cells (itV (r.getD (r.length - k' - 1) it0)) 44) → a1 = HlA r.length A c2 wb w.heap.size k' W'.heap.size (r.getD (r.length - k' - 1) it0) → HlJ l NA c wb m w0 f HE A c2 r w Ah k' a1 W2 ∧ KeepsFrom wC.heap.size W' W2) := fun a1 W2 e1 e2 => by
      subst e1
      obtain ⟨-, u, hu⟩ := HI1.out
      have hb := (Below.refl W'.heap.size W').alloc (Nat.le_refl _) (.cells (itV (r.getD (r.length - k' - 1) it0)) 44)
      refine ⟨⟨HK1.out, W'.heap.size, u, hu.later hb, Blk.new _ _ _, fun e => ?_, e2⟩, ⟨hb.size, fun k o _ ho _ => (hb.block k (Array.getElem?_eq_some_iff.1 ho).1).trans ho⟩⟩
      obtain ⟨cur, h1, -⟩ := own_at hu.s.own e
      exact absurd h1.lt (Nat.lt_irrefl _)
    unfold bwI
    unfold HlA itV at HJJ
    generalize r.getD (r.length - k' - 1) it0 = x at *
    unfold itV
    simp
    gi_wp2
    exact HJJ.out _ _ rfl rfl
  case body =>
    intro l' k' a1 W1 hk' hI1
    obtain ⟨hk, bx, u, hls, hx, hne, rfl⟩ := hI1
    have HDA : Hid (r.drop (r.length - (k' + 1)) ++ Ah = r.getD (r.length - k' - 1) it0 :: (r.drop (r.length - k') ++ Ah)) := by unfold Hid; rw [drop_next hk]; rfl
    have HAL : Hid ((r.drop (r.length - k') ++ Ah).length ≤ 200000) := by
      unfold Hid; rw [List.length_append, List.length_drop]; omega
    have HWB : Hid (wb < w.heap.size) := HS.out.blk.lt
    generalize r.getD (r.length - k' - 1) it0 = x at *
    generalize r.drop (r.length - k') ++ Ah = Ah' at *
    have HU := Lib.hid hls
    have HR1 : Hid (HlR wb w0 W1 Ah' x bx w.heap.size u NA l c f m W1) := ⟨World.grownBy.refl _ _, hls.s.own, hls.s.blk, hx, hne, hls.bp, Nat.le_refl _⟩
    have HKK := Lib.hid hk
    clear hls hx hne HI0 HIP HI6 hk hk'
    unfold HlA
    gi_wp2
    have hR : ∀ w w', Below w.heap.size w w' → LyI w0.heap.size u Ah'.reverse x w w' := fun w w' => LyI.of w w'
    have HR9 := Lib.hid hR
    clear hR
    refine G.round_region_last (R := (LyI w0.heap.size u Ah'.reverse x)) HR9.out (S := (HlR wb w0 W1 Ah' x bx w.heap.size u NA l c f m)) (hSt := fun _ _ h hr => h.grow hr) (plan := [[(2, none)], [(2, none)], [(11, some 1)], [(12, some 2)], [(13, some 3)], [(5, none)], [(15, some 5)], [(14, some 4), (16, some 6)], [(10, some 0)], [(18, some 8)]]) rfl (by kernel_rfl) (by kernel_rfl) (by kernel_rfl) (by kernel_rfl) (by rintro ⟨a9, w9, h9⟩; exact absurd h9.1 (by simp)) (by kernel_rfl) ?hS ?_
    rotate_left
    simp only [List.dropLast]
    iterate 6 first
      | (refine G.chain_skip (by rfl) (by rfl) ?_)
      | (apply G.chain_want (by rfl)
         · intro act wx hS hr
           simp at hr
           have c1 := hS.blk.cell 1
           have p0 := hS.bp.cell 0
           have hb := hS.bx
           unfold itV at hb
           have x0 := hb.cell 0
           have x1 := hb.cell 1
           have x2 := hb.cell 2
           have x3 := hb.cell 3
           simp [wkC] at c1 p0 x0 x1 x2 x3
           clear hb
           go_simp
           (try go_ints)
           first
             | exact G.Done.same HR9.out
        )
    (refine G.chain_rel (NwX u x) (NwX.grow x) (by rfl) ?_ ?_
     · intro act wx hS hr
       simp at hr
       all_goals go_simp
       exact G.Done.rel (LyI.of _ _ ((Below.refl _ _).alloc (Nat.le_refl _) _)) ⟨_, rfl, Blk.new _ _ _, fun e => by
         obtain ⟨cur, h1, -⟩ := own_at hS.own e
         exact absurd h1.lt (Nat.lt_irrefl _)⟩
    )
    (refine G.chain_rel (ApX w0.heap.size W1.heap.size u Ah'.reverse x) (ApX.grow Ah'.reverse x) (by rfl) ?_ ?_
     · intro act wx hS hr
       simp at hr
       obtain ⟨hr2, v9, hr3, b, rfl, hk, hne⟩ := hr
       refine wp_append_it2 (.tmp 14) (.tmp 16) rfl w0.heap.size u Ah'.reverse (by simp [Act.eval, hr2]) hS.own b x (by simp [Act.eval, hr3]) hk (by rw [List.length_reverse]; have := HAL.out; omega) (Nat.le_trans HU.out.s.size hS.sz) ?_
       intro v' w' q1 q2 q3 q4 q5
       refine G.Done.rel ⟨q2, fun _ => q4, q5⟩ ⟨q1, ?_⟩
       rcases q3 with q3 | ⟨g', q3, q6⟩
       · exact .inl q3
       · exact .inr ⟨g', q3, Nat.le_trans hS.sz q6⟩
    )
    iterate 2 first
      | (refine G.chain_skip (by rfl) (by rfl) ?_)
      | (apply G.chain_want (by rfl)
         · intro act wx hS hr
           simp at hr
           go_simp
           (try go_ints)
           first
             | exact G.Done.same HR9.out
        )
    show ∀ w', _ → _
    intro wz hz
    simp [Act.put]
    case hS => exact HR1.out
    intro v6 hv6 v7 hv7
    obtain ⟨hv8, hv9⟩ := hv7
    have hv8' : OwnIt wz w0.heap.size v7 (Ah'.reverse ++ [x]) := hv8
    obtain ⟨a7, k7, rfl, -⟩ := hv8'.row
    have HP := Lib.hid (HU.out.s.push hv8 hz.g hv9)
    have HK9 : Hid (HdK w0 wb w (wz.setCell ⟨wb, 1, none⟩ (.slice a7 (Ah'.reverse ++ [x]).length k7))) := (HU.out.k.trans (HdK.grown HU.out.s.own HU.out.s.size hz.g)).trans (HdK.set HU.out.s.hwb 1 _)
    have HKF : Hid (KeepsFrom wC.heap.size W1 (wz.setCell ⟨wb, 1, none⟩ (.slice a7 (Ah'.reverse ++ [x]).length k7))) := by
      have h1 : KeepsFrom wC.heap.size W1 wz := keeps_grown HU.out.s.own hz.g
      refine h1.trans ⟨(setCell_grown wz wb 1 _).size, fun k o _ ho hc => ((setCell_grown wz wb 1 _).block k (Array.getElem?_eq_some_iff.1 ho).1 (fun e => ?_)).trans ho⟩
      cases e
      exact not_cells ho hc hz.blk rfl
    have HTP : Hid (HdK w0 wb W1 (wz.setCell ⟨wb, 1, none⟩ (.slice a7 (Ah'.reverse ++ [x]).length k7))) := (HdK.grown HU.out.s.own HU.out.s.size hz.g).trans (HdK.set HU.out.s.hwb 1 _)
    have c1 := hz.blk.cell 1
    have f1 := hz.blk.frozen 1
    simp [wkC] at c1
    clear hz hv6 hv8 hv8' hv9 HR1
    generalize (Ah'.reverse ++ [x]).length = nn at *
    go_wp2
    refine ⟨HKF.out, HKK.out, .slice a7 nn k7, ?_⟩
    rw [HDA.out]
    exact ⟨HP.out, HK9.out, HTP.out.typ _ _ _ HU.out.bp (by decide) (by have := HWB.out; omega), HTP.out.typ _ _ _ HU.out.bs (by decide) (by have := HWB.out; omega)⟩
  case done =>
    intro W' hI' hK'
    obtain ⟨-, u, hu⟩ := hI'
    rw [Nat.sub_self, List.drop_zero] at hu
    have HU := Lib.hid hu
    have HKD := Lib.hid hK'
    clear hu hK' HI0 HIP HI6
    have hk9 : HdK w0 wb W' (W'.putObj wC.heap.size (.deferred none)) := .putObj (Nat.le_trans H0.out HBC.out.size) HKD.out rfl
    have hs9 : HwS l NA c wb m w0 (r ++ Ah) f HE u (W'.putObj wC.heap.size (.deferred none)) := HU.out.s.putObj (Nat.le_trans H0.out HBC.out.size) (Nat.lt_of_lt_of_le HMW.out HBC.out.size) HKD.out rfl
    refine ⟨by simp, .inl ⟨_, _, rfl, run_takeDeferred HKD.out, ?_⟩⟩
    refine ⟨_, results_none rfl _ _ _, ?_⟩
    exact ⟨rfl, u, hs9, HU.out.k.trans hk9⟩
end Go.Proofs.Ytidoofdofdhjpaa
/- Items turned round: slices.Reverse at a row of items. -/
namespace Go.Proofs.Ytidoofdofdhjpaa
open Go Go.RowKit Go.Sort
set_option linter.unusedVariables false
set_option linter.unusedSimpArgs false
set_option maxRecDepth 100000

def laysRevI_ren : Go.Shelf.Ren := ⟨fun | 35 => 69 | n => n, fun | 0 => 0 | 3 => 3 | 4 => 4 | 22 => 26 | 23 => 44 | n => n, fun n => n⟩
theorem laysRevI : SlLaysE0.n35 Try.prog laysRevI_ren := {
  mixed := by kernel_rfl,
  f35 := ⟨Try.f69.name, by kernel_rfl, Try.func69.trans (congrArg some (by kernel_rfl))⟩,
  t0 := Try.underlying0,
  a0 := Try.isAgg0,
  z0 := Try.sizeOf0,
  v0 := Try.zeroValue0,
  t3 := Try.underlying3,
  a3 := Try.isAgg3,
  z3 := Try.sizeOf3,
  v3 := Try.zeroValue3,
  t4 := Try.underlying4,
  a4 := Try.isAgg4,
  z4 := Try.sizeOf4,
  v4 := Try.zeroValue4,
  t22 := Try.underlying26,
  a22 := Try.isAgg26,
  z22 := Try.sizeOf26,
  v22 := Try.zeroValue26 }
instance : Inhabited Itm := ⟨it0⟩
def encIc (p : Itm) : List Value := (itV p).toList
theorem encIc_len (p : Itm) : (encIc p).length = 4 := itV_size p
theorem flatKI_eq (l : List Itm) : (Go.Sort.flatK encIc 4 l.toArray).toList = flatIt l := by
  apply List.ext_getElem?
  intro t
  have hsz : (Go.Sort.flatK encIc 4 l.toArray).size = l.length * 4 := by rw [size_flatK]; simp
  by_cases ht : t < l.length * 4
  · have hd : t / 4 < l.length := by omega
    have hm : t % 4 < 4 := Nat.mod_lt _ (by decide)
    have h1 := flatIt_get l (t / 4) (t % 4) hd hm
    rw [show t / 4 * 4 + t % 4 = t by omega] at h1
    rw [h1]
    have hs : t < (Go.Sort.flatK encIc 4 l.toArray).size := by rw [hsz]; exact ht
    rw [Array.getElem?_toList, Array.getElem?_eq_getElem hs]
    have h2 := Go.Sort.get_flatK encIc 4 l.toArray t (by simpa using ht)
    rw [getElem!_pos _ t hs] at h2
    rw [h2]
    have e1 : l.toArray[t / 4]! = l.getD (t / 4) it0 := by
      rw [getElem!_pos _ _ (by simpa using hd), List.getD_eq_getElem?_getD, List.getElem?_eq_getElem hd]; rfl
    rw [e1]
    unfold encIc
    have hl : t % 4 < (itV (l.getD (t / 4) it0)).toList.length := by rw [itV_size]; exact hm
    rw [getElem!_pos (itV (l.getD (t / 4) it0)).toList (t % 4) hl, ← Array.getElem?_toList, List.getElem?_eq_getElem hl]
  · rw [List.getElem?_eq_none (by rw [Array.length_toList, hsz]; omega), List.getElem?_eq_none (by rw [flatIt_length]; omega)]
theorem revI_any {w : World} {base : Nat} {v : Value} {l : List Itm} (h : OwnIt w base v l) (hl : 0 < l.length) (hm : l.length ≤ 1000000) :
    Calls Try.prog 69 #[v] w (fun e w' => e = .returned (.tuple #[]) ∧ OwnIt w' base v l.reverse ∧ w.grownBy w' v.ownBlock) := by
  obtain ⟨g, cap, cur, rfl, hg, hblk, hcap, hmax, hsz, htake⟩ := h.blk hl
  have hF : (Go.Sort.flatK encIc 4 l.toArray).size = l.length * 4 := by rw [size_flatK]; simp
  have hH : HoldsK encIc 4 w g 0 l.toArray := fun j hj => by
    rw [hF] at hj
    refine ⟨?_, hblk.frozen _⟩
    have hs : j < (Go.Sort.flatK encIc 4 l.toArray).size := by rw [hF]; exact hj
    rw [Nat.zero_add, hblk.cell, getElem!_pos _ j hs]
    have e : cur.toList[j]? = (Go.Sort.flatK encIc 4 l.toArray).toList[j]? := by
      rw [flatKI_eq, ← htake, List.getElem?_take, if_pos hj]
    rw [Array.getElem?_toList, Array.getElem?_toList, Array.getElem?_eq_getElem hs] at e
    exact e
  have hc := AnyQ.slices_Reverse laysRevI 4 (fun w => Try.isAgg44 w) (fun w => Try.sizeOf44 w) encIc encIc_len (fun p u hu => flatIt_ones [p] u (by unfold flatIt; exact List.mem_append_left _ hu)) g 0 cap l.toArray w hH (by simp; omega)
  rw [show l.toArray.size = l.length from by simp] at hc
  refine hc.mono ?_
  rintro e w' ⟨rfl, n, rfl⟩
  have hrev : l.toArray.reverse = l.reverse.toArray := by simp
  rw [hrev]
  have hF2 : (Go.Sort.flatK encIc 4 l.reverse.toArray).size = l.length * 4 := by rw [size_flatK]; simp
  obtain ⟨F, hFe⟩ : ∃ F, F = Go.Sort.flatK encIc 4 l.reverse.toArray := ⟨_, rfl⟩
  have hheap : (putRowK encIc 4 (Go.Sort.ahead w n) g 0 l.reverse.toArray).heap[g]? = some (Obj.cells (putCells id 0 F cur) 44) := by
    unfold putRowK putRow mapBlock Go.Sort.ahead
    simp only [Array.getElem?_modify]
    have hb : w.heap[g]? = some (Obj.cells cur 44) := hblk
    rw [hb, ← hFe]; rfl
  refine ⟨rfl, ⟨flatIt_length _, .inr ⟨g, cap, putCells id 0 F cur, by rw [List.length_reverse], hg, hheap, by rw [List.length_reverse]; exact hcap, hmax, by unfold putCells; rw [Array.size_mapIdx]; exact hsz, ?_⟩⟩, ?_⟩
  · rw [List.length_reverse]
    apply List.ext_getElem?
    intro t
    by_cases ht : t < l.length * 4
    · rw [List.getElem?_take, if_pos ht, Array.getElem?_toList]
      unfold putCells
      have htc : t < cur.size := by have := Nat.mul_le_mul_right 4 hcap; omega
      rw [Array.getElem?_mapIdx, Array.getElem?_eq_getElem htc, Option.map_some, if_pos ⟨Nat.zero_le _, by rw [hFe, hF2]; omega⟩, Nat.sub_zero, ← flatKI_eq, Array.getElem?_toList, ← hFe, Array.getElem?_eq_getElem (by rw [hFe, hF2]; exact ht), getElem!_pos _ t (by rw [hFe, hF2]; exact ht)]; rfl
    · rw [List.getElem?_take, if_neg ht, List.getElem?_eq_none (by rw [flatIt_length, List.length_reverse]; omega)]
  · refine ⟨rfl, rfl, rfl, ?_, fun k hk hne => ?_⟩
    · unfold putRowK putRow mapBlock Go.Sort.ahead; simp
    · unfold putRowK putRow mapBlock Go.Sort.ahead
      simp only [Array.getElem?_modify]
      rw [if_neg (fun e => hne (by rw [e]; rfl))]
end Go.Proofs.Ytidoofdofdhjpaa
