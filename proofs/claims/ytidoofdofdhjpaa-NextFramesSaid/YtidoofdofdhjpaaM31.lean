/- Items laid ahead: walked. -/
import Derived.Test.YtidoofdofdhjpaaM24
import Derived.Test.YtidoofdofdhjpaaM30
import Derived.Test.YtidoofdofdhjpaaM23
import Derived.Shelf.SlicesQ.Reverse
namespace Go.Proofs.Ytidoofdofdhjpaa
open Go Go.RowKit
set_option linter.unusedVariables false
set_option linter.unusedSimpArgs false
set_option maxRecDepth 100000
set_option maxHeartbeats 16000000
attribute [local go_sem] Oper.semAt_some
section
variable {l : List Nd} {NA : Option Addr} {c wb m : Nat} {w0 w w1 w' : World} {Ah : List Itm} {f : Nat} {HE : List HdE} {v v' : Value}
theorem putObj_gb (w : World) (k : Nat) (o : Obj) : w.grownBy (w.putObj k o) (some k) := ⟨rfl, rfl, rfl, by rw [World.putObj_size]; exact Nat.le_refl _, fun j hj hne => World.putObj_heap_other fun e => hne (by rw [e])⟩
theorem not_cells {k b : Nat} {o : Obj} {cs : Array Value} {t : TypeId} (ho : w.heap[k]? = some o) (hc : o.isCells = false) (hb : Blk w b cs t) : b ≠ k := by
 rintro rfl
 unfold Blk at hb
 rw [ho] at hb
 have e := Option.some.inj hb
 subst e
 cases hc
theorem HdK.putObj {k : Nat} {o o' : Obj} (hB : w0.heap.size <= k) (ho : w.heap[k]? = some o) (hc : o.isCells = false) : HdK w0 wb w (w.putObj k o') :=
 ⟨⟨rfl, rfl, rfl, by rw [World.putObj_size]; exact Nat.le_refl _, fun j hj => World.putObj_heap_other (by omega)⟩, fun b cs t hb _ _ => (World.putObj_heap_other (not_cells ho hc hb)).trans hb⟩
theorem HwS.putObj (h : HwS l NA c wb m w0 Ah f HE v w) {k : Nat} {o o' : Obj} (hB : w0.heap.size <= k) (hm : m < k) (ho : w.heap[k]? = some o) (hc : o.isCells = false) : HwS l NA c wb m w0 Ah f HE v (w.putObj k o') := by
 have hkp : ∀ {u : Value} {x : List Itm}, OwnIt w w0.heap.size u x -> OwnIt (w.putObj k o') w0.heap.size u x := fun hu => World.ownsRow.kept hu (putObj_gb w k o') (.inr (fun e => by
  obtain ⟨cur, h1, -⟩ := own_at hu e
  exact not_cells ho hc h1 rfl))
 exact ⟨h.bel.trans (HdK.putObj (wb := wb) hB ho hc).bel, h.row, (World.putObj_heap_other (not_cells ho hc h.blk)).trans h.blk, hkp h.own, (World.putObj_heap_other (by omega)).trans h.map, h.hwb, h.hm, fun e he => ⟨hkp (h.ent e he).1, (h.ent e he).2⟩⟩
theorem keeps_grown {x : List Itm} {B B' : Nat} (h : OwnIt w B v x) (hg : w.grownBy w' v.ownBlock) : KeepsFrom B' w w' := ⟨hg.size, fun k o hB ho hc => (hg.block k (Array.getElem?_eq_some_iff.1 ho).1 (fun e => by
 obtain ⟨cur, h1, -⟩ := own_at h e.symm
 exact not_cells ho hc h1 rfl)).trans ho⟩
end
structure HlS (l : List Nd) (NA : Option Addr) (c wb m : Nat) (w0 : World) (f : Nat) (HE : List HdE) (A : Option Addr) (N c2 : Nat) (ws : World) (Ah : List Itm) (v : Value) (w : World) : Prop where
 s : HwS l NA c wb m w0 Ah f HE v w
 k : HdK w0 wb ws w
 bp : Blk w ws.heap.size #[.pointer (some ⟨wb, 0, none⟩)] 104
 bs : Blk w (ws.heap.size + 1) #[.slice A N c2] 25
section
variable {l : List Nd} {NA : Option Addr} {c wb m : Nat} {w0 ws w w1 w' : World} {Ah : List Itm} {f : Nat} {HE : List HdE} {v v' : Value} {A : Option Addr} {N c2 : Nat}
theorem HlS.later (h : HlS l NA c wb m w0 f HE A N c2 ws Ah v w) (hb : Below w.heap.size w w') : HlS l NA c wb m w0 f HE A N c2 ws Ah v w' :=
 ⟨h.s.later hb, h.k.trans (.of h.s.size hb), h.bp.later hb, h.bs.later hb⟩
theorem HlS.putObj (h : HlS l NA c wb m w0 f HE A N c2 ws Ah v w) {k : Nat} {o o' : Obj} (hB : ws.heap.size <= k) (hm : m < ws.heap.size) (h0 : w0.heap.size <= ws.heap.size) (ho : w.heap[k]? = some o) (hc : o.isCells = false) : HlS l NA c wb m w0 f HE A N c2 ws Ah v (w.putObj k o') :=
 ⟨h.s.putObj (by omega) (by omega) ho hc, h.k.trans (.putObj (by omega) ho hc), (World.putObj_heap_other (not_cells ho hc h.bp)).trans h.bp, (World.putObj_heap_other (not_cells ho hc h.bs)).trans h.bs⟩
end
def LyI (B : Nat) (v : Value) (l : List Itm) (x : Itm) (w w' : World) : Prop := w.grownBy w' v.ownBlock /\ (OwnIt w B v l -> OwnIt w' B v l) /\ (∀ u, OwnIt w B u (l ++ [x]) -> OwnIt w' B u (l ++ [x]))
theorem gb_ofI {w w' : World} {ro : Option Nat} (h : Below w.heap.size w w') : w.grownBy w' ro := ⟨h.os, h.tape, h.output, h.size, fun k hk _ => h.block k hk⟩
theorem LyI.of {B : Nat} {v : Value} {l : List Itm} {x : Itm} (w w' : World) (hb : Below w.heap.size w w') : LyI B v l x w w' := ⟨gb_ofI hb, fun h => h.later hb, fun u h => h.later hb⟩
structure HlR (wb : Nat) (w0 ws : World) (Ah : List Itm) (x : Itm) (xb pb : Nat) (v : Value) (NA : Option Addr) (l : List Nd) (c f m : Nat) (w : World) : Prop where
 g : ws.grownBy w v.ownBlock
 own : OwnIt w w0.heap.size v Ah.reverse
 blk : Blk w wb (wkC NA l c v f m) 81
 bx : Blk w xb (itV x) 44
 ne : v.ownBlock ≠ some xb
 bp : Blk w pb #[.pointer (some ⟨wb, 0, none⟩)] 104
 sz : ws.heap.size <= w.heap.size
section
variable {l : List Nd} {NA : Option Addr} {c wb m : Nat} {w0 ws w w1 w' : World} {Ah : List Itm} {f : Nat} {HE : List HdE} {v v' : Value} {x : Itm} {bx bp : Nat}
theorem HlR.grow (h : HlR wb w0 ws Ah x bx bp v NA l c f m w) (hr : LyI w0.heap.size v Ah.reverse x w w') : HlR wb w0 ws Ah x bx bp v NA l c f m w' :=
 ⟨grown_trans h.g hr.1, hr.2.1 h.own, (hr.1.block _ h.blk.lt (fun e => own_not h.own h.blk (by decide) e.symm)).trans h.blk, (hr.1.block _ h.bx.lt (fun e => h.ne e.symm)).trans h.bx, h.ne, (hr.1.block _ h.bp.lt (fun e => own_not h.own h.bp (by decide) e.symm)).trans h.bp, Nat.le_trans h.sz hr.1.size⟩
end
def NwX (v : Value) (x : Itm) (u : Value) (w : World) : Prop := ∃ b, u = .slice (some ⟨b, 0, none⟩) 1 1 /\ Blk w b (itV x) 44 /\ v.ownBlock ≠ some b
theorem NwX.grow {B : Nat} {v : Value} {l : List Itm} (x : Itm) (u : Value) (w w' : World) (h : NwX v x u w) (hr : LyI B v l x w w') : NwX v x u w' := by
 obtain ⟨b, h1, h2, h3⟩ := h
 exact ⟨b, h1, (hr.1.block _ h2.lt (fun e => h3 e.symm)).trans h2, h3⟩
def ApX (B n : Nat) (v : Value) (l : List Itm) (x : Itm) (u : Value) (w : World) : Prop := OwnIt w B u (l ++ [x]) /\ (u.ownBlock = v.ownBlock \/ ∃ g', u.ownBlock = some g' /\ n <= g')
theorem ApX.grow {B n : Nat} {v : Value} (l : List Itm) (x : Itm) (u : Value) (w w' : World) (h : ApX B n v l x u w) (hr : LyI B v l x w w') : ApX B n v l x u w' := ⟨hr.2.2 u h.1, h.2⟩
def HlI (l : List Nd) (NA : Option Addr) (c wb m : Nat) (w0 : World) (f : Nat) (HE : List HdE) (A : Option Addr) (c2 : Nat) (r : List Itm) (ws : World) (Ah : List Itm) (k : Nat) (w : World) : Prop :=
 k <= r.length /\ ∃ v, HlS l NA c wb m w0 f HE A r.length c2 ws (r.drop (r.length - k) ++ Ah) v w
def HlA (N : Nat) (A : Option Addr) (c2 wb n k bx : Nat) (x : Itm) : Act := { tmps := #[.pointer (some ⟨wb, 0, none⟩), .slice A N c2, .pointer (some ⟨n, 0, none⟩), undef, undef, .pointer (some ⟨bx, 0, none⟩), .slice A N c2, .func (.func 84) #[] #[.pointer (some ⟨n + 1, 0, none⟩)], .int .i64 ((N - k : Nat) - 1 : Int), .agg #[.int .i64 x.kind, .int .i64 x.node, .int .i64 x.lo, .int .i64 x.hi], undef, undef, undef, undef, undef, undef, undef, undef, undef, undef], defers := [] }
def HlJ (l : List Nd) (NA : Option Addr) (c wb m : Nat) (w0 : World) (f : Nat) (HE : List HdE) (A : Option Addr) (c2 : Nat) (r : List Itm) (ws : World) (Ah : List Itm) (k : Nat) (a : Act) (w : World) : Prop :=
 k < r.length /\ ∃ (bx : Nat) (v : Value), HlS l NA c wb m w0 f HE A r.length c2 ws (r.drop (r.length - k) ++ Ah) v w /\ Blk w bx (itV (r.getD (r.length - k - 1) it0)) 44 /\ v.ownBlock ≠ some bx /\ a = HlA r.length A c2 wb ws.heap.size k bx (r.getD (r.length - k - 1) it0)
theorem drop_next {r : List Itm} {k : Nat} (hk : k < r.length) : r.drop (r.length - (k + 1)) = r.getD (r.length - k - 1) it0 :: r.drop (r.length - k) := by
 have h : r.length - (k + 1) < r.length := by omega
 rw [List.drop_eq_getElem_cons h, List.getD_eq_getElem?_getD, List.getElem?_eq_getElem (by omega)]
 simp only [Option.getD_some]
 congr 2; omega
def HlP (l : List Nd) (NA : Option Addr) (c wb m : Nat) (w0 : World) (f : Nat) (HE : List HdE) (Ah : List Itm) (w : World) (e : Ending) (w' : World) : Prop :=
 e = .returned (.tuple #[]) /\ ∃ v, HwS l NA c wb m w0 Ah f HE v w' /\ HdK w0 wb w w'
theorem hdLay_any (l : List Nd) (NA : Option Addr) (c wb m : Nat) (w0 : World) (Ah : List Itm) (f : Nat) (HE : List HdE) (v : Value) (r : List Itm) (A : Option Addr) (c2 : Nat) (w : World) (hs : HwS l NA c wb m w0 Ah f HE v w) (hr : r.length <= 1000) (ha : Ah.length <= 100000)
 (HR : ∀ w', HdK w0 wb w w' -> ItRow w' A r) :
 Calls Try.prog 43 #[.pointer (some ⟨wb, 0, none⟩), .slice A r.length c2] w (HlP l NA c wb m w0 f HE (r ++ Ah) w) := by
 have HS := Lib.hid hs
 have HRR := Lib.hid HR
 have hbA := (Below.refl w.heap.size w).alloc (Nat.le_refl _) (.cells #[.pointer (some ⟨wb, 0, none⟩)] 104)
 have hzA := Blk.new w #[.pointer (some ⟨wb, 0, none⟩)] 104
 have hsA : (w.alloc (.cells #[.pointer (some ⟨wb, 0, none⟩)] 104)).heap.size = w.heap.size + 1 := World.size_alloc _ _
 clear hs HR
 refine (callsIn_wide (n := 3)).1 ?_
 refine callsIn_of_wp_marks Try.func43 rfl trivial ?_
 refine wpIn_wide.2 ?_
 simp only [Try.ntmps43, List.size_toArray, List.length_cons, List.length_nil, Nat.reduceAdd, Nat.reduceSub, Array.replicate_succ, Array.replicate_zero, List.push_toArray, List.append_toArray, List.nil_append, List.cons_append]
 go_upto_region 1 with (fail)
 generalize w.alloc (.cells #[.pointer (some ⟨wb, 0, none⟩)] 104) = wA at *
 go_wp2_with fail
 refine (backwardI_any r.length c2 A wA).mono ?_; rintro e wB ⟨rfl, hwB⟩
 subst hwB
 have hbC := (Below.refl wA.heap.size wA).alloc (Nat.le_refl _) (.cells #[.slice A r.length c2] 25)
 have hzC := Blk.new' hsA.symm #[.slice A r.length c2] 25
 have hsC : (wA.alloc (.cells #[.slice A r.length c2] 25)).heap.size = w.heap.size + 2 := by rw [World.size_alloc, hsA]
 rw [hsA]
 generalize wA.alloc (.cells #[.slice A r.length c2] 25) = wC at *
 have HBC := Lib.hid (hbA.trans (hbC.mono hbA.size))
 have HSC : Hid (HlS l NA c wb m w0 f HE A r.length c2 w Ah v wC) := ⟨HS.out.later HBC.out, .of HS.out.size HBC.out, hzA.later hbC, hzC⟩
 have HSZ := Lib.hid hsC
 have HMW : Hid (m < w.heap.size) := HS.out.map.lt
 have H0 : Hid (w0.heap.size <= w.heap.size) := HS.out.size
 clear hbA hzA hsA hbC hzC hsC
 go_wp2
 rw [show w.heap.size + 1 = w.heap.size + 1 from rfl]
 have HI0 : Hid (∀ k' W', HlI l NA c wb m w0 f HE A c2 r w Ah k' W' -> W'.cell? ⟨w.heap.size + 1, 0, none⟩ = some (.slice A r.length c2) /\ ∀ j, j < r.length -> ∃ b off, A = some ⟨b, off, none⟩ /\ At4 W' b (off + j * 4) (r.getD j it0)) := fun k' W' h => by
  obtain ⟨-, u, hu⟩ := h
  refine ⟨by rw [hu.bs.cell]; rfl, fun j hj => ?_⟩
  obtain ⟨b, o, e1, -, e2⟩ := (HRR.out W' hu.k).four hj
  exact ⟨b, o, e1, e2⟩
 have HIP : Hid (∀ k' W' l' o o', HlI l NA c wb m w0 f HE A c2 r w Ah k' W' -> wC.heap.size <= l' -> W'.heap[l']? = some o -> o.isCells = false -> HlI l NA c wb m w0 f HE A c2 r w Ah k' (W'.putObj l' o')) := fun k' W' l' o o' h hl ho hc => by
  obtain ⟨h1, u, hu⟩ := h
  exact ⟨h1, u, hu.putObj (Nat.le_trans HBC.out.size hl) HMW.out H0.out ho hc⟩
 have HI6 : Hid (∀ o o', HlI l NA c wb m w0 f HE A c2 r w Ah 0 ((wC.alloc o).alloc o')) := fun o o' => by
  have hb := (Below.refl wC.heap.size wC).alloc (Nat.le_refl _) o
  have hb2 := hb.alloc hb.size o'
  refine ⟨Nat.zero_le _, v, ?_⟩
  rw [Nat.sub_zero, List.drop_length, List.nil_append]
  exact HSC.out.later hb2
 refine (wpIn_wide (n := 3)).1 ?_
 refine range_boxedI (gf := 84) (lb := #[.pointer (some ⟨w.heap.size + 1, 0, none⟩)]) (N := r.length) (ag := bwI r.length r) (I := HlI l NA c wb m w0 f HE A c2 r w Ah) (I1 := HlJ l NA c wb m w0 f HE A c2 r w Ah) rfl (enters_of Try.func84 (by kernel_rfl) rfl) (backI_yields (w.heap.size + 1) r.length c2 A r _ (by omega) HI0.out) (fun _ => rfl) HIP.out ?i1 HI6.out ?assign ?body ?done
 case i1 =>
  intro k' a1 W' l' o o' h hl ho hc
  obtain ⟨h1, bx, u, h2, h3, h4, h5⟩ := h
  exact ⟨h1, bx, u, h2.putObj (Nat.le_trans HBC.out.size hl) HMW.out H0.out ho hc, (World.putObj_heap_other (not_cells ho hc h3)).trans h3, h4, h5⟩
 case assign =>
  intro l' k' W' hk' hI'
  have HI1 := Lib.hid hI'
  have HK1 := Lib.hid hk'
  clear hI' hk' HI0 HIP HI6
  have HJJ : Hid (∀ (a1 : Act) (W2 : World), W2 = W'.alloc (.cells (itV (r.getD (r.length - k' - 1) it0)) 44) -> a1 = HlA r.length A c2 wb w.heap.size k' W'.heap.size (r.getD (r.length - k' - 1) it0) -> HlJ l NA c wb m w0 f HE A c2 r w Ah k' a1 W2 /\ KeepsFrom wC.heap.size W' W2) := fun a1 W2 e1 e2 => by
   subst e1
   obtain ⟨-, u, hu⟩ := HI1.out
   have hb := (Below.refl W'.heap.size W').alloc (Nat.le_refl _) (.cells (itV (r.getD (r.length - k' - 1) it0)) 44)
   refine ⟨⟨HK1.out, W'.heap.size, u, hu.later hb, Blk.new _ _ _, fun e => ?_, e2⟩, ⟨hb.size, fun k o _ ho _ => (hb.block k (Array.getElem?_eq_some_iff.1 ho).1).trans ho⟩⟩
   obtain ⟨cur, h1, -⟩ := own_at hu.s.own e
   exact absurd h1.lt (Nat.lt_irrefl _)
  unfold bwI
  unfold HlA itV at HJJ
  generalize r.getD (r.length - k' - 1) it0 = x at *
  unfold itV
  simp
  gi_wp2
  exact HJJ.out _ _ rfl rfl
 case body =>
  intro l' k' a1 W1 hk' hI1
  obtain ⟨hk, bx, u, hls, hx, hne, rfl⟩ := hI1
  have HDA : Hid (r.drop (r.length - (k' + 1)) ++ Ah = r.getD (r.length - k' - 1) it0 :: (r.drop (r.length - k') ++ Ah)) := by unfold Hid; rw [drop_next hk]; rfl
  have HAL : Hid ((r.drop (r.length - k') ++ Ah).length <= 200000) := by
   unfold Hid; rw [List.length_append, List.length_drop]; omega
  have HWB : Hid (wb < w.heap.size) := HS.out.blk.lt
  generalize r.getD (r.length - k' - 1) it0 = x at *
  generalize r.drop (r.length - k') ++ Ah = Ah' at *
  have HU := Lib.hid hls
  have HR1 : Hid (HlR wb w0 W1 Ah' x bx w.heap.size u NA l c f m W1) := ⟨World.grownBy.refl _ _, hls.s.own, hls.s.blk, hx, hne, hls.bp, Nat.le_refl _⟩
  have HKK := Lib.hid hk
  clear hls hx hne HI0 HIP HI6 hk hk'
  unfold HlA
  gi_wp2
  have hR : ∀ w w', Below w.heap.size w w' -> LyI w0.heap.size u Ah'.reverse x w w' := fun w w' => LyI.of w w'
  have HR9 := Lib.hid hR
  clear hR
  refine G.round_region_last (R := (LyI w0.heap.size u Ah'.reverse x)) HR9.out (S := (HlR wb w0 W1 Ah' x bx w.heap.size u NA l c f m)) (hSt := fun _ _ h hr => h.grow hr) (plan := [[(2, none)], [(2, none)], [(11, some 1)], [(12, some 2)], [(13, some 3)], [(5, none)], [(15, some 5)], [(14, some 4), (16, some 6)], [(10, some 0)], [(18, some 8)]]) rfl (by kernel_rfl) (by kernel_rfl) (by kernel_rfl) (by kernel_rfl) (by rintro ⟨a9, w9, h9⟩; exact absurd h9.1 (by simp)) (by kernel_rfl) ?hS ?_
  rotate_left
  simp only [List.dropLast]
  iterate 6 first
   | (refine G.chain_skip (by rfl) (by rfl) ?_)
   | (apply G.chain_want (by rfl)
      ·intro act wx hS hr
       simp at hr
       have c1 := hS.blk.cell 1
       have p0 := hS.bp.cell 0
       have hb := hS.bx
       unfold itV at hb
       have x0 := hb.cell 0
       have x1 := hb.cell 1
       have x2 := hb.cell 2
       have x3 := hb.cell 3
       simp [wkC] at c1 p0 x0 x1 x2 x3
       clear hb
       go_simp
       (try go_ints)
       first
        | exact G.Done.same HR9.out
     )
  (refine G.chain_rel (NwX u x) (NwX.grow x) (by rfl) ?_ ?_
   ·intro act wx hS hr
    simp at hr
    all_goals go_simp
    exact G.Done.rel (LyI.of _ _ ((Below.refl _ _).alloc (Nat.le_refl _) _)) ⟨_, rfl, Blk.new _ _ _, fun e => by
     obtain ⟨cur, h1, -⟩ := own_at hS.own e
     exact absurd h1.lt (Nat.lt_irrefl _)⟩
  )
  (refine G.chain_rel (ApX w0.heap.size W1.heap.size u Ah'.reverse x) (ApX.grow Ah'.reverse x) (by rfl) ?_ ?_
   ·intro act wx hS hr
    simp at hr
    obtain ⟨hr2, v9, hr3, b, rfl, hk, hne⟩ := hr
    refine wp_append_it2 (.tmp 14) (.tmp 16) rfl w0.heap.size u Ah'.reverse (by simp [Act.eval, hr2]) hS.own b x (by simp [Act.eval, hr3]) hk (by rw [List.length_reverse]; have := HAL.out; omega) (Nat.le_trans HU.out.s.size hS.sz) ?_
    intro v' w' q1 q2 q3 q4 q5
    refine G.Done.rel ⟨q2, fun _ => q4, q5⟩ ⟨q1, ?_⟩
    rcases q3 with q3 | ⟨g', q3, q6⟩
    ·exact .inl q3
    ·exact .inr ⟨g', q3, Nat.le_trans hS.sz q6⟩
  )
  iterate 2 first
   | (refine G.chain_skip (by rfl) (by rfl) ?_)
   | (apply G.chain_want (by rfl)
      ·intro act wx hS hr
       simp at hr
       go_simp
       (try go_ints)
       first
        | exact G.Done.same HR9.out
     )
  show ∀ w', _ -> _
  intro wz hz
  simp [Act.put]
  case hS => exact HR1.out
  intro v6 hv6 v7 hv7
  obtain ⟨hv8, hv9⟩ := hv7
  have hv8' : OwnIt wz w0.heap.size v7 (Ah'.reverse ++ [x]) := hv8
  obtain ⟨a7, k7, rfl, -⟩ := hv8'.row
  have HP := Lib.hid (HU.out.s.push hv8 hz.g hv9)
  have HK9 : Hid (HdK w0 wb w (wz.setCell ⟨wb, 1, none⟩ (.slice a7 (Ah'.reverse ++ [x]).length k7))) := (HU.out.k.trans (HdK.grown HU.out.s.own HU.out.s.size hz.g)).trans (HdK.set HU.out.s.hwb 1 _)
  have HKF : Hid (KeepsFrom wC.heap.size W1 (wz.setCell ⟨wb, 1, none⟩ (.slice a7 (Ah'.reverse ++ [x]).length k7))) := by
   have h1 : KeepsFrom wC.heap.size W1 wz := keeps_grown HU.out.s.own hz.g
   refine h1.trans ⟨(setCell_grown wz wb 1 _).size, fun k o _ ho hc => ((setCell_grown wz wb 1 _).block k (Array.getElem?_eq_some_iff.1 ho).1 (fun e => ?_)).trans ho⟩
   cases e
   exact not_cells ho hc hz.blk rfl
  have HTP : Hid (HdK w0 wb W1 (wz.setCell ⟨wb, 1, none⟩ (.slice a7 (Ah'.reverse ++ [x]).length k7))) := (HdK.grown HU.out.s.own HU.out.s.size hz.g).trans (HdK.set HU.out.s.hwb 1 _)
  have c1 := hz.blk.cell 1
  have f1 := hz.blk.frozen 1
  simp [wkC] at c1
  clear hz hv6 hv8 hv8' hv9 HR1
  generalize (Ah'.reverse ++ [x]).length = nn at *
  go_wp2
  refine ⟨HKF.out, HKK.out, .slice a7 nn k7, ?_⟩
  rw [HDA.out]
  exact ⟨HP.out, HK9.out, HTP.out.typ _ _ _ HU.out.bp (by decide) (by have := HWB.out; omega), HTP.out.typ _ _ _ HU.out.bs (by decide) (by have := HWB.out; omega)⟩
 case done =>
  intro W' hI' hK'
  obtain ⟨-, u, hu⟩ := hI'
  rw [Nat.sub_self, List.drop_zero] at hu
  have HU := Lib.hid hu
  have HKD := Lib.hid hK'
  clear hu hK' HI0 HIP HI6
  have hk9 : HdK w0 wb W' (W'.putObj wC.heap.size (.deferred none)) := .putObj (Nat.le_trans H0.out HBC.out.size) HKD.out rfl
  have hs9 : HwS l NA c wb m w0 (r ++ Ah) f HE u (W'.putObj wC.heap.size (.deferred none)) := HU.out.s.putObj (Nat.le_trans H0.out HBC.out.size) (Nat.lt_of_lt_of_le HMW.out HBC.out.size) HKD.out rfl
  refine ⟨by simp, .inl ⟨_, _, rfl, run_takeDeferred HKD.out, ?_⟩⟩
  refine ⟨_, results_none rfl _ _ _, ?_⟩
  exact ⟨rfl, u, hs9, HU.out.k.trans hk9⟩
end Go.Proofs.Ytidoofdofdhjpaa
namespace Go.Proofs.Ytidoofdofdhjpaa
open Go Go.RowKit Go.Sort
set_option linter.unusedVariables false
set_option linter.unusedSimpArgs false
set_option maxRecDepth 100000
def laysRevI_ren : Go.Shelf.Ren := ⟨fun | 35 => 69 | n => n, fun | 0 => 0 | 3 => 3 | 4 => 4 | 22 => 26 | 23 => 44 | n => n, fun n => n⟩
theorem laysRevI : SlLaysE0.n35 Try.prog laysRevI_ren := {
 mixed := by kernel_rfl,
 f35 := ⟨Try.f69.name, by kernel_rfl, Try.func69.trans (congrArg some (by kernel_rfl))⟩,
 t0 := Try.underlying0,
 a0 := Try.isAgg0,
 z0 := Try.sizeOf0,
 v0 := Try.zeroValue0,
 t3 := Try.underlying3,
 a3 := Try.isAgg3,
 z3 := Try.sizeOf3,
 v3 := Try.zeroValue3,
 t4 := Try.underlying4,
 a4 := Try.isAgg4,
 z4 := Try.sizeOf4,
 v4 := Try.zeroValue4,
 t22 := Try.underlying26,
 a22 := Try.isAgg26,
 z22 := Try.sizeOf26,
 v22 := Try.zeroValue26 }
instance : Inhabited Itm := ⟨it0⟩
def encIc (p : Itm) : List Value := (itV p).toList
theorem encIc_len (p : Itm) : (encIc p).length = 4 := itV_size p
theorem flatKI_eq (l : List Itm) : (Go.Sort.flatK encIc 4 l.toArray).toList = flatIt l := by
 apply List.ext_getElem?
 intro t
 have hsz : (Go.Sort.flatK encIc 4 l.toArray).size = l.length * 4 := by rw [size_flatK]; simp
 by_cases ht : t < l.length * 4
 ·have hd : t / 4 < l.length := by omega
  have hm : t % 4 < 4 := Nat.mod_lt _ (by decide)
  have h1 := flatIt_get l (t / 4) (t % 4) hd hm
  rw [show t / 4 * 4 + t % 4 = t by omega] at h1
  rw [h1]
  have hs : t < (Go.Sort.flatK encIc 4 l.toArray).size := by rw [hsz]; exact ht
  rw [Array.getElem?_toList, Array.getElem?_eq_getElem hs]
  have h2 := Go.Sort.get_flatK encIc 4 l.toArray t (by simpa using ht)
  rw [getElem!_pos _ t hs] at h2
  rw [h2]
  have e1 : l.toArray[t / 4]! = l.getD (t / 4) it0 := by
   rw [getElem!_pos _ _ (by simpa using hd), List.getD_eq_getElem?_getD, List.getElem?_eq_getElem hd]; rfl
  rw [e1]
  unfold encIc
  have hl : t % 4 < (itV (l.getD (t / 4) it0)).toList.length := by rw [itV_size]; exact hm
  rw [getElem!_pos (itV (l.getD (t / 4) it0)).toList (t % 4) hl, <- Array.getElem?_toList, List.getElem?_eq_getElem hl]
 ·rw [List.getElem?_eq_none (by rw [Array.length_toList, hsz]; omega), List.getElem?_eq_none (by rw [flatIt_length]; omega)]
theorem revI_any {w : World} {base : Nat} {v : Value} {l : List Itm} (h : OwnIt w base v l) (hl : 0 < l.length) (hm : l.length <= 1000000) :
 Calls Try.prog 69 #[v] w (fun e w' => e = .returned (.tuple #[]) /\ OwnIt w' base v l.reverse /\ w.grownBy w' v.ownBlock) := by
 obtain ⟨g, cap, cur, rfl, hg, hblk, hcap, hmax, hsz, htake⟩ := h.blk hl
 have hF : (Go.Sort.flatK encIc 4 l.toArray).size = l.length * 4 := by rw [size_flatK]; simp
 have hH : HoldsK encIc 4 w g 0 l.toArray := fun j hj => by
  rw [hF] at hj
  refine ⟨?_, hblk.frozen _⟩
  have hs : j < (Go.Sort.flatK encIc 4 l.toArray).size := by rw [hF]; exact hj
  rw [Nat.zero_add, hblk.cell, getElem!_pos _ j hs]
  have e : cur.toList[j]? = (Go.Sort.flatK encIc 4 l.toArray).toList[j]? := by
   rw [flatKI_eq, <- htake, List.getElem?_take, if_pos hj]
  rw [Array.getElem?_toList, Array.getElem?_toList, Array.getElem?_eq_getElem hs] at e
  exact e
 have hc := AnyQ.slices_Reverse laysRevI 4 (fun w => Try.isAgg44 w) (fun w => Try.sizeOf44 w) encIc encIc_len (fun p u hu => flatIt_ones [p] u (by unfold flatIt; exact List.mem_append_left _ hu)) g 0 cap l.toArray w hH (by simp; omega)
 rw [show l.toArray.size = l.length from by simp] at hc
 refine hc.mono ?_
 rintro e w' ⟨rfl, n, rfl⟩
 have hrev : l.toArray.reverse = l.reverse.toArray := by simp
 rw [hrev]
 have hF2 : (Go.Sort.flatK encIc 4 l.reverse.toArray).size = l.length * 4 := by rw [size_flatK]; simp
 obtain ⟨F, hFe⟩ : ∃ F, F = Go.Sort.flatK encIc 4 l.reverse.toArray := ⟨_, rfl⟩
 have hheap : (putRowK encIc 4 (Go.Sort.ahead w n) g 0 l.reverse.toArray).heap[g]? = some (Obj.cells (putCells id 0 F cur) 44) := by
  unfold putRowK putRow mapBlock Go.Sort.ahead
  simp only [Array.getElem?_modify]
  have hb : w.heap[g]? = some (Obj.cells cur 44) := hblk
  rw [hb, <- hFe]; rfl
 refine ⟨rfl, ⟨flatIt_length _, .inr ⟨g, cap, putCells id 0 F cur, by rw [List.length_reverse], hg, hheap, by rw [List.length_reverse]; exact hcap, hmax, by unfold putCells; rw [Array.size_mapIdx]; exact hsz, ?_⟩⟩, ?_⟩
 ·rw [List.length_reverse]
  apply List.ext_getElem?
  intro t
  by_cases ht : t < l.length * 4
  ·rw [List.getElem?_take, if_pos ht, Array.getElem?_toList]
   unfold putCells
   have htc : t < cur.size := by have := Nat.mul_le_mul_right 4 hcap; omega
   rw [Array.getElem?_mapIdx, Array.getElem?_eq_getElem htc, Option.map_some, if_pos ⟨Nat.zero_le _, by rw [hFe, hF2]; omega⟩, Nat.sub_zero, <- flatKI_eq, Array.getElem?_toList, <- hFe, Array.getElem?_eq_getElem (by rw [hFe, hF2]; exact ht), getElem!_pos _ t (by rw [hFe, hF2]; exact ht)]; rfl
  ·rw [List.getElem?_take, if_neg ht, List.getElem?_eq_none (by rw [flatIt_length, List.length_reverse]; omega)]
 ·refine ⟨rfl, rfl, rfl, ?_, fun k hk hne => ?_⟩
  ·unfold putRowK putRow mapBlock Go.Sort.ahead; simp
  ·unfold putRowK putRow mapBlock Go.Sort.ahead
   simp only [Array.getElem?_modify]
   rw [if_neg (fun e => hne (by rw [e]; rfl))]
end Go.Proofs.Ytidoofdofdhjpaa
namespace Go.Proofs.Ytidoofdofdhjpaa
open Go Go.RowKit
set_option linter.unusedVariables false
set_option linter.unusedSimpArgs false
set_option maxRecDepth 100000
set_option maxHeartbeats 16000000
set_option maxRecDepth 100000 in
theorem wp_append_itL {w : World} {o : Oper} {a : Act} {K : Act -> World -> Prop} {Q : Exit -> Act -> World -> Prop} (s x : Operand)
 (ho : o.op = .call { callee := .builtin .append, args := #[s, x], argTypes := #[25, 25] })
 (base : Nat) (v : Value) (l : List Itm) (hs : a.eval s = v) (hown : OwnIt w base v l)
 (b oo c : Nat) (r : List Itm) (hx : a.eval x = .slice (some ⟨b, oo, none⟩) r.length c) (hr : ItRow w (some ⟨b, oo, none⟩) r) (hlen : l.length + r.length < 1073741824) (hbase : base <= w.heap.size)
 (h : ∀ v' w', OwnIt w' base v' (l ++ r) -> w.grownBy w' v.ownBlock -> K (a.put o.dst v') w') : o.wp Try.prog a w K Q := by
 obtain ⟨ib, hib, hz0, hz1, hz2⟩ := info_parts infoIt
 obtain ⟨v', w', hrun, h2, h3, _⟩ := run_append_own (P := Try.prog) w base 25 o.type 44 ib _ 4 32 Try.underlying25 hib hz0 hz1 hz2 rfl (by decide) v l.length (flatIt l) hown ⟨b, oo, none⟩ r.length c (flatIt r) (by rw [flatIt_length]) hr.news (flatIt_ones r) (by unfold maxLen; omega) (by omega) hbase
 unfold Oper.wp execOp
 simp only [ho, resolve, invoke, builtin, Sem.run_bind, Sem.run_pure, Result.andThen_ok, List.map_toArray, List.map_cons, List.map_nil, hs, hx, hrun]
 exact h v' w' (by unfold OwnIt; rw [List.length_append, flatIt_append]; exact h2) h3
theorem wpList_append_itL {w : World} {ops : Array Oper} {rest : List Oper} {o : Oper} {a : Act} {Q : Exit -> Act -> World -> Prop} (hgd : o.guard = none) (s x : Operand)
 (ho : o.op = .call { callee := .builtin .append, args := #[s, x], argTypes := #[25, 25] })
 (base : Nat) (v : Value) (l : List Itm) (hs : a.eval s = v) (hown : OwnIt w base v l)
 (b oo c : Nat) (r : List Itm) (hx : a.eval x = .slice (some ⟨b, oo, none⟩) r.length c) (hr : ItRow w (some ⟨b, oo, none⟩) r) (hlen : l.length + r.length < 1073741824) (hbase : base <= w.heap.size)
 (h : ∀ v' w', OwnIt w' base v' (l ++ r) -> w.grownBy w' v.ownBlock -> wpList Try.prog ops Q rest (a.put o.dst v') w') : wpList Try.prog ops Q (o :: rest) a w :=
 wpList_plain hgd fun K hK => wp_append_itL s x ho base v l hs hown b oo c r hx hr hlen hbase fun v' w' h1 h2 => hK _ _ (h v' w' h1 h2)
theorem it_append_emptyL (w : World) (V : Addr) (n cap : Nat) (A : Option Addr) (c : Nat) (t : TypeId) (hn : n <= cap) : (Builtin.append_ #[25, 25] t #[.slice (some V) n cap, .slice A 0 c]).run Try.prog w = .ok (.slice (some V) n cap) w := by
 obtain ⟨ib, hib, hz0, hz1, hz2⟩ := info_parts infoIt
 cases A with
 | none => simp [Builtin.append_, run_underlying Try.underlying25, sizeOf, typeInfo, hib, Builtin.lenOf, Builtin.firstCells, storeCells, hn]
 | some x =>
  have hf := run_firstCells_some (P := Try.prog) w ib.size 0 x 0 c [] (by simp) (by simp)
  simp [Builtin.append_, run_underlying Try.underlying25, sizeOf, typeInfo, hib, Builtin.lenOf, hf, storeCells, hn]
theorem own_empty (w : World) (B : Nat) (hB : B <= w.heap.size) : OwnIt (w.alloc (.cells #[] 44)) B (.slice (some ⟨w.heap.size, 0, none⟩) 0 0) [] :=
 ⟨rfl, .inr ⟨w.heap.size, 0, #[], rfl, hB, Blk.new w _ _, Nat.le_refl _, by decide, rfl, rfl⟩⟩
theorem eq_nilL (w : World) (a : Option Addr) (n c n' c' : Nat) : (binOp .eql 25 (.slice a n c) (.slice none n' c')).run Try.prog w = .ok (.bool a.isNone) w := Lib.run_eql_slice_nil w _ _ a n c n' c' Try.underlying25
def HcP (w : World) (l : List Itm) (e : Ending) (w' : World) : Prop := ∃ u, e = .returned u /\ OwnIt w' w.heap.size u l /\ Below w.heap.size w w'
theorem hdClone_any (l : List Itm) (A : Option Addr) (c : Nat) (hl : l.length <= 1000000) (hn : A = none -> c = 0) (w : World) (hrow : ItRow w A l) :
 Calls Try.prog 68 #[.slice A l.length c] w (HcP w l) := by
 cases A with
 | none =>
  have hl0 : l = [] := by
   cases l with
   | nil => rfl
   | cons x r => obtain ⟨b, o, h, -⟩ := hrow 0 (by simp); cases h
  subst hl0
  obtain rfl : c = 0 := hn rfl
  have hq := fun w => eq_nilL w none 0 0 0 0
  go_enter Try.func68, Try.ntmps68
  go_wp2
  go_ret
  exact ⟨_, rfl, OwnIt.nil0 _ _, Below.refl _ _⟩
 | some ad =>
  have HR := Lib.hid hrow
  have hq := fun w => eq_nilL w (some ad) l.length c 0 0
  go_enter Try.func68, Try.ntmps68
  go_upto_region 3 with (fail)
  have hb := (Below.refl w.heap.size w).alloc (Nat.le_refl _) (.cells #[] 44)
  have HO := Lib.hid (own_empty w w.heap.size (Nat.le_refl _))
  have HB := Lib.hid hb
  have HR2 := Lib.hid (HR.out.later hb)
  by_cases hne : 0 < l.length
  ·obtain ⟨b, oo, hA, -, -⟩ := hrow 0 hne
   cases hA
   clear hrow hb HR hne
   go_wp2_with (refine wpList_append_itL rfl _ _ rfl w.heap.size _ [] rfl HO.out b oo c l rfl HR2.out (by simp; omega) HB.out.size ?_; intro v' w' h1 h2; obtain ⟨a7, k7, rfl, -⟩ := h1.row; have HP : Hid (HcP w l (.returned (.slice a7 ([] ++ l).length k7)) w') := ⟨_, rfl, by (rw [List.nil_append] at h1 ⊢; exact h1), HB.out.grown h2 HB.out.size (fun k hk => by (cases hk; exact Nat.le_refl _))⟩; clear h1 h2)
   go_ret
   exact HP.out
  ·have hl0 : l = [] := List.length_eq_zero_iff.1 (by omega)
   subst hl0
   have hap := it_append_emptyL (w.alloc (.cells #[] 44)) ⟨w.heap.size, 0, none⟩ 0 0 (some ad) c
   have hap2 := fun t => hap t (Nat.le_refl _)
   clear hap hrow hb HR
   simp only [List.length_nil] at hq ⊢
   go_wp2
   go_ret
   exact ⟨_, rfl, HO.out, HB.out⟩
theorem revI_none (A : Option Addr) (c : Nat) (w : World) : Calls Try.prog 69 #[.slice A 0 c] w (fun e w' => e = .returned (.tuple #[]) /\ w' = w) := by
 go_enter Try.func69, Try.ntmps69
 go_wp2
 go_loopw [2, 3] (fun i j wr => i = .int .i64 0 /\ j = .int .i64 (-1) /\ wr = w) (fun i _ _ => 0)
 case atStart => exact ⟨rfl, rfl, rfl⟩
 case round =>
  obtain ⟨rfl, rfl, rfl⟩ := hrel
  go_wp2
  go_end0
  exact ⟨rfl, rfl⟩
def HOk (HE : List HdE) : Prop := (HE.map HdE.s).Nodup /\ ∀ e ∈ HE, 1 <= e.many /\ e.many <= 2 /\ e.s.length <= 1000
theorem mny_le {HE : List HdE} (h : HOk HE) (t : List Itm) : mnyE HE t <= 2 := by
 have h2 := h.2
 clear h
 induction HE with
 | nil => exact Nat.zero_le _
 | cons d L ih =>
  unfold mnyE
  split
  ·exact (h2 d (List.mem_cons_self ..)).2.1
  ·exact ih fun e he => h2 e (List.mem_cons_of_mem _ he)
theorem hok_put {HE : List HdE} {e : HdE} (h : HOk HE) (he : 1 <= e.many /\ e.many <= 2 /\ e.s.length <= 1000) : HOk (putE HE e) := ⟨put_nodup h.1, fun d hd => by
 rcases put_mem hd with rfl | hd
 ·exact he
 ·exact h.2 d hd⟩
def HaP (l : List Nd) (NA : Option Addr) (c wb m : Nat) (w0 : World) (f : Nat) (HE : List HdE) (Ah : List Itm) (v : Value) (k : Nat) (w : World) (e : Ending) (w' : World) : Prop :=
 e = .returned (.tuple #[]) /\ ∃ HE', HwS l NA c wb m w0 Ah f HE' v w' /\ HdK w0 wb w w' /\ HOk HE' /\ ∀ t, mnyE HE' t = if t = Ah then min 2 (mnyE HE Ah + k) else mnyE HE t
theorem field_br1 (A : Option Addr) (n c : Nat) (x : Int) (w : World) : (Instr.field 41 (.agg #[.slice A n c, .int .i64 x]) 1).run Try.prog w = .ok (.int .i64 x) w := by kernel_rfl
theorem hdWadd_any (l : List Nd) (NA : Option Addr) (c wb m : Nat) (w0 : World) (Ah : List Itm) (f : Nat) (HE : List HdE) (v : Value) (k : Nat) (hk : 1 <= k /\ k <= 2) (w : World) (hs : HwS l NA c wb m w0 Ah f HE v w) (hl : Ah.length <= 1000) (hI : ItOk Ah) (hO : HOk HE) :
 Calls Try.prog 45 #[.pointer (some ⟨wb, 0, none⟩), .int .i64 (k : Int)] w (HaP l NA c wb m w0 f HE Ah v k w) := by
 have HS := Lib.hid hs
 obtain ⟨a, cp, hv, hcp, hrow⟩ := hs.own.row
 have hnn : a = none -> cp = 0 := fun e => by
  subst e
  obtain ⟨-, ⟨h1, -⟩ | ⟨g, cap, cur, h1, -⟩⟩ := hs.own
  ·rw [hv] at h1; injection h1
  ·rw [hv] at h1; injection h1 with e1; cases e1
 have hcl := hdClone_any Ah.reverse a cp (by rw [List.length_reverse]; omega) hnn w hrow
 rw [List.length_reverse] at hcl hv
 have HCL := Lib.hid hcl
 clear hcl
 have c1 := hs.blk.cell 1
 simp [wkC] at c1
 subst hv
 have HLN : Hid (Ah.reverse.length = Ah.length) := List.length_reverse
 clear hs hrow hnn hcp
 go_enter Try.func45, Try.ntmps45
 go_wp2_with fail
 refine HCL.out.mono ?_
 rintro e w1 ⟨u, rfl, hu, hb⟩
 have HU := Lib.hid hu
 have HB := Lib.hid hb
 have HS1 := Lib.hid (HS.out.later hb)
 have HAP : Hid (Aprt (.slice a Ah.length cp) u) := by
  unfold Hid Aprt
  cases ho : u.ownBlock with
  | none => exact .inl rfl
  | some b =>
   refine .inr fun e => ?_
   obtain ⟨cur, h1, -⟩ := own_at HS.out.own e.symm
   obtain ⟨cur2, -, h2⟩ := own_at hu ho
   have := h1.lt
   omega
 have HRV : Hid (Calls Try.prog 69 #[u] w1 (fun e w' => e = .returned (.tuple #[]) /\ OwnIt w' w.heap.size u Ah /\ w1.grownBy w' u.ownBlock)) := by
  by_cases h0 : 0 < Ah.reverse.length
  ·have := revI_any hu h0 (by rw [List.length_reverse]; omega)
   rw [List.reverse_reverse] at this
   exact this
  ·have h1 : Ah = [] := List.length_eq_zero_iff.1 (by rw [List.length_reverse] at h0; omega)
   subst h1
   obtain ⟨a1, c1, hx, -, -⟩ := hu.row
   have := revI_none a1 c1 w1
   rw [hx]
   exact this.mono fun e w' h => ⟨h.1, by rw [h.2]; rw [hx] at hu; exact hu, by rw [h.2]; exact World.grownBy.refl _ _⟩
 obtain ⟨a1, k1, hux, -, -⟩ := hu.row
 rw [HLN.out] at hux
 subst hux
 clear hu hb HCL c1
 go_wp2_with fail
 refine HRV.out.mono ?_
 rintro e w2 ⟨rfl, hu2, hg2⟩
 have hk2 : HdK w0 wb w1 w2 := by
  refine HdK.grown (v := .slice a1 Ah.length k1) (x := Ah.reverse) ?_ HS1.out.size hg2
  exact (HU.out.lower HS.out.size)
 have hs2 : HwS l NA c wb m w0 Ah f HE (.slice a Ah.length cp) w2 := by
  have h := HS1.out
  refine ⟨h.bel.trans hk2.bel, h.row, (hg2.block _ h.blk.lt (fun e => own_not HU.out h.blk (by decide) e.symm)).trans h.blk, World.ownsRow.kept h.own hg2 ?_, (hg2.block _ h.map.lt (fun e => own_notm HU.out h.map e.symm)).trans h.map, h.hwb, h.hm, fun d hd => ⟨World.ownsRow.kept (h.ent d hd).1 hg2 ?_, (h.ent d hd).2⟩⟩
  ·rcases HAP.out with h1 | h1
   ·rw [h1]
    cases hh : Value.ownBlock (.slice a Ah.length cp) with
    | none => exact .inl rfl
    | some b => exact .inr (by simp)
   ·exact .inr (Ne.symm h1)
  ·cases hh : d.v.ownBlock with
   | none => exact .inl rfl
   | some b =>
    refine .inr fun e => ?_
    obtain ⟨cur, h1, -⟩ := own_at (HS.out.ent d hd).1 hh
    obtain ⟨cur2, -, h2⟩ := own_at HU.out e.symm
    have := h1.lt
    omega
 have HS2 := Lib.hid hs2
 have HU2 := Lib.hid (hu2.lower HS.out.size)
 have HK2 := Lib.hid ((HdK.of HS.out.size HB.out).trans hk2)
 obtain ⟨a2, c2, hx2, -, hr2⟩ := hu2.row
 cases hx2
 have HKY := Lib.hid (ikey_any Ah a1 k1 hl hI w2 hr2)
 clear hs2 hu2 hk2 hg2 hr2 HRV
 go_wp2_with fail
 refine HKY.out.mono ?_
 rintro e w3 ⟨rfl, hb3⟩
 have HS3 := Lib.hid (HS2.out.later hb3)
 have HU3 := Lib.hid (HU2.out.later hb3)
 have HK3 := Lib.hid (HK2.out.trans (.of HS2.out.size hb3))
 clear hb3 HKY
 obtain ⟨A9, n9, c9, hlk⟩ := run_lookup_h w3 m HE Ah HS3.out.map
 have hfd := field_br1 A9 n9 c9 (mnyE HE Ah : Int) w3
 have hmn := mny_le hO Ah
 obtain ⟨q, hq⟩ : ∃ q, mnyE HE Ah = q := ⟨_, rfl⟩
 have HQ := Lib.hid hq
 rw [hq] at hlk hfd hmn
 have hup := run_update_h w3 m HE ⟨Ah, a1, k1, min 2 (q + k)⟩ HS3.out.map
 have hcm : ((min 2 (q + k) : Nat) : Int) = min ((q : Int) + (k : Int)) 2 := by omega
 unfold brC at hup
 simp only at hup
 rw [hcm] at hup
 have d3 := HS3.out.blk.cell 3
 simp [wkC] at d3
 have hqz : (q : Int) <= 2 := by omega
 have hkz : (k : Int) <= 2 := by omega
 have hkz0 : (0 : Int) <= (k : Int) := by omega
 have HFN : Hid (HaP l NA c wb m w0 f HE Ah (.slice a Ah.length cp) k w (.returned (.tuple #[])) (putMapH w3 m (putE HE ⟨Ah, a1, k1, min 2 (q + k)⟩))) := by
  refine ⟨rfl, _, HS3.out.put HU3.out HAP.out, HK3.out.trans (HdK.put HS3.out.map HS3.out.hm), hok_put hO ⟨by simp only; omega, by simp only; omega, hl⟩, fun t => ?_⟩
  rw [mny_put, HQ.out]
 clear hq hcm hmn hO
 generalize putMapH w3 m (putE HE ⟨Ah, a1, k1, min 2 (q + k)⟩) = w4 at *
 generalize bs (stK Ah) = ky at *
 go_wp2
 go_end0
 exact HFN.out
def HpP (l : List Nd) (NA : Option Addr) (c wb m : Nat) (w0 : World) (R : List (List Itm)) (Ah : List Itm) (f g : Nat) (HE : List HdE) (k : Nat) (w : World) (e : Ending) (w' : World) : Prop :=
 ∃ HE' v' f', e = .returned (.int .i64 ((min 2 (k * nilF R) : Nat) : Int)) /\ HwS l NA c wb m w0 Ah f' HE' v' w' /\ HdK w0 wb w w' /\ HOk HE' /\ (∀ t, mnyE HE' t = min 2 (mnyE HE t + k * hitF R Ah t)) /\ f <= f' + (if k = 0 then 0 else g) /\ f' <= f
def PassC (l : List Nd) (NA : Option Addr) (c wb m : Nat) (w0 : World) (n : Nat) : Prop :=
 ∀ (x : Itm) (Ah : List Itm) (f : Nat) (HE : List HdE) (v : Value) (k : Nat) (w : World), HdF l x -> (∀ y ∈ Ah, HdF l y) -> HwS l NA c wb m w0 (x :: Ah) f HE v w -> HOk HE -> k <= 2 -> f <= 1000000 -> Ah.length <= 1000 ->
   (k ≠ 0 -> csI l x <= f /\ csI l x <= n /\ Ah.length + csI l x <= 900) ->
   Calls Try.prog 44 #[.pointer (some ⟨wb, 0, none⟩), .int .i64 (k : Int)] w (HpP l NA c wb m w0 (rchS l [x]) Ah f (csI l x) HE k w)
def ThruC (l : List Nd) (NA : Option Addr) (c wb m : Nat) (w0 : World) (n : Nat) : Prop :=
 ∀ (r : List Itm) (Ah : List Itm) (f : Nat) (HE : List HdE) (v : Value) (k : Nat) (w : World), r.length <= 2 -> (∀ y ∈ r, HdF l y) -> (∀ y ∈ Ah, HdF l y) -> HwS l NA c wb m w0 Ah f HE v w -> HOk HE -> 1 <= k -> k <= 2 -> f <= 1000000 ->
   dpS l r <= f -> dpS l r <= n -> Ah.length + dpS l r + 1 <= 900 ->
   Calls Try.prog 67 #[.pointer (some ⟨wb, 0, none⟩), .agg (rowC r).toArray, .int .i64 (k : Int)] w (HpP l NA c wb m w0 (rchS l r) Ah f (dpS l r) HE k w)
structure HtR (l : List Nd) (NA : Option Addr) (c wb m : Nat) (w0 : World) (r Ah : List Itm) (f : Nat) (HE : List HdE) (k : Nat) (ws : World) (j q f' : Nat) (HE' : List HdE) (v' : Value) (w : World) : Prop where
 s : HwS l NA c wb m w0 (r.drop j ++ Ah) f' HE' v' w
 k' : HdK w0 wb ws w
 ok : HOk HE'
 q2 : q <= 2
 hit : ∀ t, min 2 (mnyE HE' t + q * hitF (rchS l (r.drop j)) Ah t) = min 2 (mnyE HE t + k * hitF (rchS l r) Ah t)
 nil : min 2 (q * nilF (rchS l (r.drop j))) = min 2 (k * nilF (rchS l r))
 fu : f <= f' + dpS l r
 fq : q ≠ 0 -> f + dpS l (r.drop j) <= f' + dpS l r
 fl : f' <= f
def HtL (l : List Nd) (NA : Option Addr) (c wb m : Nat) (w0 : World) (r Ah : List Itm) (f : Nat) (HE : List HdE) (k : Nat) (ws : World) (q i : Value) (w : World) : Prop :=
 ∃ (j q' f' : Nat) (HE' : List HdE) (v' : Value), j <= r.length /\ i = .int .i64 (j : Int) /\ q = .int .i64 (q' : Int) /\ HtR l NA c wb m w0 r Ah f HE k ws j q' f' HE' v' w
section
variable {l : List Nd} {NA : Option Addr} {c wb m : Nat} {w0 : World} {r Ah : List Itm} {f : Nat} {HE : List HdE} {k : Nat} {ws : World} {j q f' : Nat} {HE' : List HdE} {v' : Value} {w w' : World}
theorem HtR.step (hR : Rgt l) (hr : ∀ y ∈ r, HdF l y) (h : HtR l NA c wb m w0 r Ah f HE k ws j q f' HE' v' w) (hj : j < r.length) {HE2 : List HdE} {v2 : Value} {f2 : Nat}
 (h2 : HwS l NA c wb m w0 (r.drop (j + 1) ++ Ah) f2 HE2 v2 w') (hk : HdK w0 wb w w') (ho : HOk HE2) (hm : ∀ t, mnyE HE2 t = min 2 (mnyE HE' t + q * hitF (rchS l [r.getD j it0]) (r.drop (j + 1) ++ Ah) t))
 (h3 : f' <= f2 + (if q = 0 then 0 else csI l (r.getD j it0))) (h4 : f2 <= f') : HtR l NA c wb m w0 r Ah f HE k ws (j + 1) (min 2 (q * nilF (rchS l [r.getD j it0]))) f2 HE2 v2 w' := by
 have hd : r.drop j = r.getD j it0 :: r.drop (j + 1) := by
  rw [List.drop_eq_getElem_cons hj, List.getD_eq_getElem?_getD, List.getElem?_eq_getElem hj]; rfl
 have hx : HdF l (r.getD j it0) := hr _ (by rw [List.getD_eq_getElem?_getD, List.getElem?_eq_getElem hj]; exact List.getElem_mem hj)
 have hrr : ∀ y ∈ r.drop (j + 1), HdF l y := fun y hy => hr y (List.mem_of_mem_drop hy)
 obtain ⟨b1, b2⟩ : HtR l NA c wb m w0 r Ah f HE k ws j q f' HE' v' w /\ True := ⟨h, trivial⟩
 have hfq := h.fq
 rw [hd, dp_cons] at hfq
 refine ⟨h2, h.k'.trans hk, ho, Nat.min_le_left _ _, fun t => ?_, ?_, ?_, fun hq => ?_, Nat.le_trans h4 h.fl⟩
 ·rw [hm t, (pass_round hR hx hrr Ah t (h := mnyE HE' t) (w := q)).1, <- hd]
  exact h.hit t
 ·rw [(pass_round hR hx hrr Ah [] (h := 0) (w := q)).2, <- hd]
  exact h.nil
 ·by_cases hq : q = 0
  ·rw [if_pos hq] at h3; have := h.fu; omega
  ·rw [if_neg hq] at h3; have := hfq hq; omega
 ·have hq0 : q ≠ 0 := fun e => by rw [e] at hq; simp at hq
  have hn : nilF (rchS l [r.getD j it0]) ≠ 0 := fun e => by rw [e] at hq; simp at hq
  have hnu := nu_nil hR hx hn
  rw [if_neg hq0] at h3
  have := hfq hq0
  rw [if_pos hnu] at this
  omega
theorem HtR.end_ (h : HtR l NA c wb m w0 r Ah f HE k ws r.length q f' HE' v' w) (hk : k ≠ 0) : q = min 2 (k * nilF (rchS l r)) /\ HwS l NA c wb m w0 Ah f' HE' v' w /\ (∀ t, mnyE HE' t = min 2 (mnyE HE t + k * hitF (rchS l r) Ah t)) /\ f <= f' + (if k = 0 then 0 else dpS l r) := by
 have h1 := h.nil
 have h2 := h.s
 have h3 := h.hit
 have h4 := h.q2
 rw [List.drop_length] at h1 h2
 rw [(hit_end (l := l) [] []).2, Nat.mul_one] at h1
 rw [List.nil_append] at h2
 refine ⟨by omega, h2, fun t => ?_, by rw [if_neg hk]; exact h.fu⟩
 have h5 := h3 t
 rw [List.drop_length, (hit_end (l := l) Ah t).1, Nat.mul_zero, Nat.add_zero] at h5
 have := mny_le h.ok t
 omega
end
theorem hd_thru {l : List Nd} {NA : Option Addr} {c wb m : Nat} {w0 : World} {n : Nat} (hR : Rgt l) (hP : PassC l NA c wb m w0 n) : ThruC l NA c wb m w0 n := by
 intro r Ah f HE v k w hr2 hr hA hs hO hk1 hk2 hf hd1 hd2 hl
 have HS := Lib.hid hs
 have hb := (Below.refl w.heap.size w).alloc (Nat.le_refl _) (.cells (rowC r).toArray 110)
 have hz := Blk.new w (rowC r).toArray 110
 have HM : Hid ((rowC r).toArray[8]? = some (.int .i64 (r.length : Int))) := by
  unfold Hid rowC
  rw [List.getElem?_toArray, List.getElem?_append_right (by rw [flatIt_length, List.length_append, List.length_replicate]; omega), flatIt_length, List.length_append, List.length_replicate, show 8 - (r.length + (2 - r.length)) * 4 = 0 by omega]
  rfl
 have HS1 := Lib.hid (hs.later hb)
 have HZ := Lib.hid hz
 have HB := Lib.hid hb
 have HRW : Hid (∀ w', Blk w' w.heap.size (rowC r).toArray 110 -> ItRow w' (some ⟨w.heap.size, 0, none⟩) r) := fun w' h i hi => by
  refine ⟨w.heap.size, 0, rfl, h.lt, fun j hj => ?_⟩
  rw [h.cell, List.getElem?_toArray]
  unfold rowC
  have h1 := flatIt_get (r ++ List.replicate (2 - r.length) it0) i j (by rw [List.length_append]; omega) hj
  rw [Nat.zero_add, List.getElem?_append_left (by rw [flatIt_length, List.length_append]; omega), h1]
  congr 2
  rw [List.getD_eq_getElem?_getD, List.getD_eq_getElem?_getD, List.getElem?_append_left hi]
 clear hs hb hz
 go_enter Try.func67, Try.ntmps67
 go_upto_region 1 with (fail)
 generalize w.alloc (.cells (rowC r).toArray 110) = w1 at *
 have e8 := HZ.out.cell 8
 rw [HM.out] at e8
 have hlz : (r.length : Int) <= 2 := by omega
 go_wp2_with fail
 have HWB : Hid (wb < w.heap.size) := HS.out.blk.lt
 refine (hdLay_any l NA c wb m w0 Ah f HE v r (some ⟨w.heap.size, 0, none⟩) 2 w1 HS1.out (by omega) (by omega) (fun w' hk => HRW.out w' (hk.typ _ _ _ HZ.out (by decide) (by have := HWB.out; omega)))).mono ?_
 rintro e w2 ⟨rfl, v2, hs2, hk2'⟩
 have HT0 : Hid (HtL l NA c wb m w0 r Ah f HE k w (.int .i64 (k : Int)) (.int .i64 0) w2) := ⟨0, k, f, HE, v2, Nat.zero_le _, rfl, rfl, ⟨hs2, (HdK.of HS.out.size HB.out).trans hk2', hO, hk2, fun t => by rw [List.drop_zero], by rw [List.drop_zero], by omega, fun _ => by rw [List.drop_zero]; exact Nat.le_refl _, Nat.le_refl _⟩⟩
 have e8 := (hk2'.typ _ _ _ HZ.out (by decide) (by have := HWB.out; omega)).cell 8
 rw [HM.out] at e8
 have HA := Lib.hid hA
 have HRR := Lib.hid hr
 have HD1 := Lib.hid hd1
 have HD2 := Lib.hid hd2
 have HLL := Lib.hid hl
 have HK1 := Lib.hid hk1
 have HFF := Lib.hid hf
 have HR2 := Lib.hid hr2
 clear hs2 hk2' hA hr hO hd1 hd2 hl hk1 hk2 hf HB HZ HRW HS1 hr2
 go_wp2
 go_loopw [2, 15] (HtL l NA c wb m w0 r Ah f HE k w) (fun _ i _ => r.length - (intOf i).toNat)
 case atStart => exact HT0.out
 case round =>
  obtain ⟨j, q, f', HE', v', hj, rfl, rfl, hh⟩ := hrel
  have HH := Lib.hid hh
  have HJ := Lib.hid hj
  clear hh
  by_cases hlt : j < r.length
  ·have hz : (j : Int) < (r.length : Int) := by omega
   have HLT := Lib.hid hlt
   have hd : r.drop j = r.getD j it0 :: r.drop (j + 1) := by
    rw [List.drop_eq_getElem_cons hlt, List.getD_eq_getElem?_getD, List.getElem?_eq_getElem hlt]; rfl
   have HX : Hid (HdF l (r.getD j it0)) := HRR.out _ (by rw [List.getD_eq_getElem?_getD, List.getElem?_eq_getElem hlt]; exact List.getElem_mem hlt)
   have hs9 := HH.out.s
   have hq9 := HH.out.fq
   rw [hd, List.cons_append] at hs9
   rw [hd, dp_cons] at hq9
   have hdl : (r.drop (j + 1)).length <= 1 := by rw [List.length_drop]; have := HR2.out; omega
   have HPP := Lib.hid (hP (r.getD j it0) (r.drop (j + 1) ++ Ah) f' HE' v' q wr HX.out (hd_app (fun y hy => HRR.out y (List.mem_of_mem_drop hy)) HA.out) hs9 HH.out.ok HH.out.q2 (Nat.le_trans HH.out.fl HFF.out) (by rw [List.length_append]; have := HLL.out; omega) (fun hq => by
    have h1 := hq9 hq
    have h2 := HD1.out
    have h3 := HD2.out
    have h4 := HLL.out
    have h5 := HH.out.fl
    rw [List.length_append]
    refine ⟨by omega, by omega, by omega⟩))
   clear hs9 hq9 hd hlt hdl hj
   go_wp2_with fail
   refine HPP.out.mono ?_
   rintro e w3 ⟨HE2, v3, f2, rfl, g1, g2, g3, g4, g5, g6⟩
   have HN := Lib.hid (HH.out.step hR HRR.out HLT.out g1 g2 g3 g4 g5 g6)
   clear g1 g2 g3 g4 g5 g6 HPP
   generalize min 2 (q * nilF (rchS l [r.getD j it0])) = q2 at *
   go_wp2
   go_roundw
   case rel => exact ⟨j + 1, q2, f2, HE2, v3, HLT.out, by go_num, rfl, HN.out⟩
   case measure => have := HLT.out; simp [intOf] <;> omega
  ·obtain rfl : j = r.length := by omega
   have hz : ¬ ((r.length : Nat) : Int) < (r.length : Int) := by omega
   obtain ⟨h1, h2, h3, h4⟩ := HH.out.end_ (by have := HK1.out; omega)
   have HP2 : Hid (HpP l NA c wb m w0 (rchS l r) Ah f (dpS l r) HE k w (.returned (.int .i64 (q : Int))) wr) := ⟨HE', v', f', by rw [h1], h2, HH.out.k', HH.out.ok, h3, h4, HH.out.fl⟩
   clear h1 h2 h3 h4
   go_wp2
   go_ret
   exact HP2.out
end Go.Proofs.Ytidoofdofdhjpaa
