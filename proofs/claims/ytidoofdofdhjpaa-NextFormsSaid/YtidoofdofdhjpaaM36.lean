/- The walk's memory: its box, what is ahead, what is found. -/
import Derived.Test.YtidoofdofdhjpaaM34
import Derived.Test.YtidoofdofdhjpaaM22
import Derived.Test.YtidoofdofdhjpaaM35
import Derived.Shelf.SlSortCmp.NoneTotal
namespace Go.Proofs.Ytidoofdofdhjpaa
open Go Go.RowKit
set_option linter.unusedVariables false
set_option linter.unusedSimpArgs false
set_option maxRecDepth 100000

def wkC (NA : Option Addr) (l : List Nd) (c : Nat) (v : Value) (f m : Nat) : Array Value := #[.slice NA l.length c, v, .int .i64 (f : Int), .map (some m)]
def HdE.v (e : HdE) : Value := .slice e.A e.s.length e.cap
def Aprt (v u : Value) : Prop := u.ownBlock = none ∨ u.ownBlock ≠ v.ownBlock
structure HwS (l : List Nd) (NA : Option Addr) (c wb m : Nat) (w0 : World) (Ah : List Itm) (f : Nat) (HE : List HdE) (v : Value) (w : World) : Prop where
  bel : Below w0.heap.size w0 w
  row : NRow w0 NA l
  blk : Blk w wb (wkC NA l c v f m) 81
  own : OwnIt w w0.heap.size v Ah.reverse
  map : IsMapH w m HE
  hwb : w0.heap.size ≤ wb
  hm : w0.heap.size ≤ m
  ent : ∀ e ∈ HE, OwnIt w w0.heap.size e.v e.s ∧ Aprt v e.v
/-- What calls keep. -/
structure HdK (w0 : World) (wb : Nat) (w w' : World) : Prop where
  bel : Below w0.heap.size w w'
  typ : ∀ b cs t, Blk w b cs t → t ≠ 44 → b ≠ wb → Blk w' b cs t
section
variable {l : List Nd} {NA : Option Addr} {c wb m : Nat} {w0 w w1 w' : World} {Ah : List Itm} {f : Nat} {HE : List HdE} {v v' : Value}
theorem HdK.refl (w0 : World) (wb : Nat) (w : World) : HdK w0 wb w w := ⟨Below.refl _ _, fun _ _ _ h _ _ => h⟩
theorem HdK.trans {a b d : World} (h : HdK w0 wb a b) (k : HdK w0 wb b d) : HdK w0 wb a d := ⟨h.bel.trans k.bel, fun g cs t hb h1 h2 => k.typ g cs t (h.typ g cs t hb h1 h2) h1 h2⟩
theorem HdK.of (hs : w0.heap.size ≤ w.heap.size) (h : Below w.heap.size w w') : HdK w0 wb w w' := ⟨h.mono hs, fun b cs t hb _ _ => hb.later h⟩
theorem own_at {l : List Itm} {B : Nat} (h : OwnIt w B v l) {g : Nat} (hg : v.ownBlock = some g) : ∃ cur, Blk w g cur 44 ∧ B ≤ g := by
  obtain ⟨-, ⟨rfl, -⟩ | ⟨g', cap, cur, rfl, hb, hgg, -⟩⟩ := h
  · cases hg
  · simp only [Value.ownBlock, Option.some.injEq] at hg
    subst hg
    exact ⟨cur, hgg, hb⟩
theorem own_not {l : List Itm} {B b : Nat} {cs : Array Value} {t : TypeId} (h : OwnIt w B v l) (hb : Blk w b cs t) (ht : t ≠ 44) : v.ownBlock ≠ some b := fun e => by
  obtain ⟨cur, h1, -⟩ := own_at h e
  exact blk_typ h1 hb (Ne.symm ht) rfl
theorem own_notm {l : List Itm} {B : Nat} {L : List HdE} (h : OwnIt w B v l) (hm : IsMapH w m L) : v.ownBlock ≠ some m := fun e => by
  obtain ⟨cur, h1, -⟩ := own_at h e
  unfold Blk at h1
  unfold IsMapH at hm
  rw [hm] at h1; cases h1
theorem HdK.grown {x : List Itm} (h : OwnIt w w0.heap.size v x) (hs : w0.heap.size ≤ w.heap.size) (hg : w.grownBy w' v.ownBlock) : HdK w0 wb w w' :=
  ⟨⟨hg.os, hg.tape, hg.output, hg.size, fun k hk => hg.block k (by omega) (fun e => by
    obtain ⟨cur, -, h2⟩ := own_at h e.symm
    omega)⟩, fun b cs t hb ht _ => (hg.block b hb.lt (fun e => own_not h hb ht e.symm)).trans hb⟩
theorem HdK.set (hs : w0.heap.size ≤ wb) (j : Nat) (u : Value) : HdK w0 wb w (w.setCell ⟨wb, j, none⟩ u) :=
  ⟨(Below.refl _ _).setCell (p := ⟨wb, j, none⟩) hs u, fun b cs t hb _ hne => hb.setCell_ne (a := ⟨wb, j, none⟩) (Ne.symm hne) u⟩
theorem HdK.put {L L' : List HdE} (hm : IsMapH w m L) (hs : w0.heap.size ≤ m) : HdK w0 wb w (putMapH w m L') :=
  ⟨⟨rfl, rfl, rfl, by rw [putMapH_size]; exact Nat.le_refl _, fun k hk => putMapH_other (by omega) _⟩, fun b cs t hb _ _ => (putMapH_other (fun e => by
    subst e
    unfold Blk at hb; unfold IsMapH at hm; rw [hm] at hb; cases hb) _).trans hb⟩
theorem own_wb {x : List Itm} {B : Nat} {cs : Array Value} (h : OwnIt w B v x) (hb : Blk w wb cs 81) (j : Nat) (u : Value) : OwnIt (w.setCell ⟨wb, j, none⟩ u) B v x :=
  World.ownsRow.kept h (setCell_grown w wb j u) (.inr (own_not h hb (by decide)))
theorem map_wb {L : List HdE} {cs : Array Value} (hm : IsMapH w m L) (hb : Blk w wb cs 81) (j : Nat) (u : Value) : IsMapH (w.setCell ⟨wb, j, none⟩ u) m L :=
  ((setCell_grown w wb j u).block m hm.lt (fun e => by
    cases e
    unfold Blk at hb; unfold IsMapH at hm; rw [hm] at hb; cases hb)).trans hm
theorem HwS.size (h : HwS l NA c wb m w0 Ah f HE v w) : w0.heap.size ≤ w.heap.size := h.bel.size
theorem HwS.nrow (h : HwS l NA c wb m w0 Ah f HE v w) : NRow w NA l := h.row.later h.bel
theorem HwS.later (h : HwS l NA c wb m w0 Ah f HE v w) (hb : Below w.heap.size w w') : HwS l NA c wb m w0 Ah f HE v w' :=
  ⟨h.bel.trans (hb.mono h.size), h.row, h.blk.later hb, h.own.later hb, (hb.block m h.map.lt).trans h.map, h.hwb, h.hm, fun e he => ⟨(h.ent e he).1.later hb, (h.ent e he).2⟩⟩
theorem HwS.push {x : Itm} (h : HwS l NA c wb m w0 Ah f HE v w) (h1 : OwnIt w1 w0.heap.size v' (Ah.reverse ++ [x])) (hg : w.grownBy w1 v.ownBlock) (hp : v'.ownBlock = v.ownBlock ∨ ∃ g', v'.ownBlock = some g' ∧ w.heap.size ≤ g') :
    HwS l NA c wb m w0 (x :: Ah) f HE v' (w1.setCell ⟨wb, 1, none⟩ v') := by
  have hk : HdK w0 wb w w1 := HdK.grown h.own h.size hg
  have hb1 : Blk w1 wb (wkC NA l c v f m) 81 := (hg.block wb h.blk.lt (fun e => own_not h.own h.blk (by decide) e.symm)).trans h.blk
  have hm1 : IsMapH w1 m HE := (hg.block m h.map.lt (fun e => own_notm h.own h.map e.symm)).trans h.map
  refine ⟨(h.bel.trans hk.bel).trans (HdK.set h.hwb 1 v').bel, h.row, hb1.setCell 1 v', ?_, map_wb hm1 hb1 1 v', h.hwb, h.hm, fun e he => ?_⟩
  · rw [List.reverse_cons]; exact own_wb h1 hb1 1 v'
  · obtain ⟨e1, e2⟩ := h.ent e he
    refine ⟨own_wb (World.ownsRow.kept e1 hg e2) hb1 1 v', ?_⟩
    rcases e2 with e2 | e2
    · exact .inl e2
    · rcases hp with hp | ⟨g', hp, hg'⟩
      · exact .inr (by rw [hp]; exact e2)
      · cases ho : e.v.ownBlock with
        | none => exact .inl ho
        | some b =>
          refine .inr fun e3 => ?_
          rw [ho, hp] at e3
          cases e3
          obtain ⟨cur, e4, -⟩ := own_at e1 ho
          have := e4.lt
          omega
theorem HwS.fuel (h : HwS l NA c wb m w0 Ah f HE v w) (f' : Nat) : HwS l NA c wb m w0 Ah f' HE v (w.setCell ⟨wb, 2, none⟩ (.int .i64 (f' : Int))) :=
  ⟨h.bel.trans (HdK.set h.hwb 2 _).bel, h.row, h.blk.setCell 2 _, own_wb h.own h.blk 2 _, map_wb h.map h.blk 2 _, h.hwb, h.hm, fun e he => ⟨own_wb (h.ent e he).1 h.blk 2 _, (h.ent e he).2⟩⟩
theorem own_init {x : List Itm} {y : Itm} {B n cap : Nat} {A : Option Addr} (h : OwnIt w B (.slice A n cap) (x ++ [y])) : OwnIt w B (.slice A x.length cap) x := by
  obtain ⟨h0, ⟨hv, hn⟩ | ⟨g, cap', cur, hv, hb, hgg, hc, hm, hs, ht⟩⟩ := h
  · simp at hn
  · rw [List.length_append, List.length_singleton] at hv hc ht
    cases hv
    refine ⟨flatIt_length _, .inr ⟨g, cap, cur, rfl, hb, hgg, by omega, hm, hs, ?_⟩⟩
    have : cur.toList.take (x.length * 4) = (cur.toList.take ((x.length + 1) * 4)).take (x.length * 4) := by rw [List.take_take]; congr 1; omega
    rw [this, ht, flatIt_append, List.take_append_of_le_length (by rw [flatIt_length]; omega), ← flatIt_length, List.take_length]
theorem HwS.pop {x : Itm} {A : Option Addr} {n cap : Nat} (h : HwS l NA c wb m w0 (x :: Ah) f HE (.slice A n cap) w) : HwS l NA c wb m w0 Ah f HE (.slice A Ah.length cap) (w.setCell ⟨wb, 1, none⟩ (.slice A Ah.length cap)) := by
  have ho := h.own
  rw [List.reverse_cons] at ho
  have h1 := own_init ho
  rw [List.length_reverse] at h1
  refine ⟨h.bel.trans (HdK.set h.hwb 1 _).bel, h.row, h.blk.setCell 1 _, own_wb h1 h.blk 1 _, map_wb h.map h.blk 1 _, h.hwb, h.hm, fun e he => ⟨own_wb (h.ent e he).1 h.blk 1 _, ?_⟩⟩
  have := (h.ent e he).2
  unfold Aprt Value.ownBlock at this ⊢
  cases A <;> exact this
theorem HwS.put {e : HdE} (h : HwS l NA c wb m w0 Ah f HE v w) (he : OwnIt w w0.heap.size e.v e.s) (ha : Aprt v e.v) : HwS l NA c wb m w0 Ah f (putE HE e) v (putMapH w m (putE HE e)) := by
  have hg : w.grownBy (putMapH w m (putE HE e)) (some m) := ⟨rfl, rfl, rfl, by rw [putMapH_size]; exact Nat.le_refl _, fun k hk hne => putMapH_other (fun e => hne (by rw [e])) _⟩
  have hkp : ∀ {u : Value} {x : List Itm}, OwnIt w w0.heap.size u x → OwnIt (putMapH w m (putE HE e)) w0.heap.size u x := fun hu => World.ownsRow.kept hu hg (.inr (own_notm hu h.map))
  refine ⟨h.bel.trans (HdK.put (wb := wb) h.map h.hm).bel, h.row, (hg.block wb h.blk.lt (fun q => ?_)).trans h.blk, hkp h.own, putMapH_is h.map.lt _, h.hwb, h.hm, fun d hd => ?_⟩
  · cases q
    have h1 := h.blk
    have h2 := h.map
    unfold Blk at h1; unfold IsMapH at h2; rw [h2] at h1; cases h1
  · rcases put_mem hd with rfl | hd
    · exact ⟨hkp he, ha⟩
    · exact ⟨hkp (h.ent d hd).1, (h.ent d hd).2⟩
end
end Go.Proofs.Ytidoofdofdhjpaa
/- Branches in memory; sorted. -/
namespace Go.Proofs.Ytidoofdofdhjpaa
open Go Go.RowKit
set_option linter.unusedVariables false
set_option linter.unusedSimpArgs false
set_option maxRecDepth 100000
set_option maxHeartbeats 16000000

def flatBr : List HdE → List Value
  | [] => []
  | e :: l => (brC e).toList ++ flatBr l
theorem brC_size (e : HdE) : (brC e).toList.length = 2 := rfl
theorem flatBr_length : ∀ l, (flatBr l).length = l.length * 2
  | [] => rfl
  | t :: l => by rw [flatBr, List.length_append, flatBr_length l, brC_size, List.length_cons]; omega
theorem flatBr_append : ∀ l m, flatBr (l ++ m) = flatBr l ++ flatBr m
  | [], m => rfl
  | t :: l, m => by show (brC t).toList ++ flatBr (l ++ m) = _; rw [flatBr_append l m, flatBr, List.append_assoc]
def hd0 : HdE := ⟨[], none, 0, 1⟩
theorem flatBr_get : ∀ (l : List HdE) (i j : Nat), i < l.length → j < 2 → (flatBr l)[i * 2 + j]? = (brC (l.getD i hd0))[j]?
  | [], i, j, h, _ => by simp at h
  | s :: l, 0, j, _, hj => by
    rw [flatBr, List.getElem?_append_left (by rw [brC_size]; omega)]
    simp
  | s :: l, i + 1, j, hi, hj => by
    have ih := flatBr_get l i j (by simpa using hi) hj
    show ((brC s).toList ++ flatBr l)[(i + 1) * 2 + j]? = _
    rw [List.getElem?_append_right (by rw [brC_size]; omega), brC_size, show (i + 1) * 2 + j - 2 = i * 2 + j by omega, ih]
    simp
theorem flatBr_ones : ∀ (l : List HdE) (u : Value), u ∈ flatBr l → u.oneCell' = true
  | [], u, h => by cases h
  | t :: l, u, h => by
    rw [flatBr, List.mem_append] at h
    rcases h with h | h
    · simp [brC] at h
      rcases h with rfl | rfl <;> rfl
    · exact flatBr_ones l u h
/-- Branches that are read. -/
def BrRow (w : World) (a : Option Addr) (l : List HdE) : Prop := ∀ i, i < l.length → ∃ b off, a = some ⟨b, off, none⟩ ∧ b < w.heap.size ∧ ∀ j, j < 2 → w.cell? ⟨b, off + i * 2 + j, none⟩ = (brC (l.getD i hd0))[j]?
theorem BrRow.later {w w' : World} {a : Option Addr} {l : List HdE} (h : BrRow w a l) (hb : Below w.heap.size w w') : BrRow w' a l := fun i hi => by
  obtain ⟨b, off, ha, hlt, hc⟩ := h i hi
  exact ⟨b, off, ha, Nat.lt_of_lt_of_le hlt hb.size, fun j hj => (hb.cell (p := ⟨b, off + i * 2 + j, none⟩) hlt).trans (hc j hj)⟩
/-- Branches that a call owns. -/
def OwnBr (w : World) (base : Nat) (v : Value) (l : List HdE) : Prop := w.ownsRow base 41 2 v l.length (flatBr l)
theorem OwnBr.later {w w' : World} {base : Nat} {v : Value} {l : List HdE} (h : OwnBr w base v l) (hb : Below w.heap.size w w') : OwnBr w' base v l := ownsRow_later h hb
theorem OwnBr.row {w : World} {base : Nat} {v : Value} {l : List HdE} (h : OwnBr w base v l) : ∃ a cap, v = .slice a l.length cap ∧ l.length ≤ cap ∧ BrRow w a l := by
  obtain ⟨_, ⟨hv, hn⟩ | ⟨g, cap, cur, hv, hb, hg, hc, hm, hs, ht⟩⟩ := h
  · have : l = [] := List.length_eq_zero_iff.1 hn
    subst this
    exact ⟨none, 0, hv, Nat.le_refl _, fun i hi => by simp at hi⟩
  · refine ⟨_, cap, hv, hc, fun i hi => ⟨g, 0, rfl, Blk.lt (w := w) (b := g) (vs := cur) (t := 41) hg, fun j hj => ?_⟩⟩
    rw [Blk.cell (w := w) (b := g) (vs := cur) (t := 41) hg, ← flatBr_get l i j hi hj, ← ht, List.getElem?_take, if_pos (by omega)]
    simp
theorem infoBr : (Try.prog.info? 41).map (fun i => (i.zero, i.size, i.bytes)) = some (some (.agg #[.slice none 0 0, .int .i64 0]), 2, 32) := by kernel_rfl
theorem br_news {w : World} {b : Nat} {p : HdE} (h : Blk w b (brC p) 41) : ∀ (j : Nat) (u : Value), (flatBr [p])[j]? = some u → w.cell? ((⟨b, 0, none⟩ : Addr).add j) = some u := fun j u hu => by
  have e : flatBr [p] = (brC p).toList := by simp [flatBr]
  rw [e, Array.getElem?_toList] at hu
  have hadd : (⟨b, 0, none⟩ : Addr).add j = ⟨b, j, none⟩ := by unfold Addr.add; split <;> simp_all
  rw [hadd, h.cell]; exact hu
set_option maxRecDepth 100000 in
theorem wpList_append_br {w : World} {ops : Array Oper} {rest : List Oper} {o : Oper} {a : Act} {Q : Exit → Act → World → Prop} (hgd : o.guard = none) (s x : Operand)
    (ho : o.op = .call { callee := .builtin .append, args := #[s, x], argTypes := #[37, 37] })
    (base : Nat) (v : Value) (l : List HdE) (hs : a.eval s = v) (hown : OwnBr w base v l)
    (b : Nat) (p : HdE) (hx : a.eval x = .slice (some ⟨b, 0, none⟩) 1 1) (hnew : Blk w b (brC p) 41) (hlen : l.length < 1073741824) (hbase : base ≤ w.heap.size)
    (h : ∀ v' w', OwnBr w' base v' (l ++ [p]) → w.grownBy w' v.ownBlock → wpList Try.prog ops Q rest (a.put o.dst v') w') : wpList Try.prog ops Q (o :: rest) a w :=
  wpList_plain hgd fun K hK => by
    obtain ⟨ib, hib, hz0, hz1, hz2⟩ := info_parts infoBr
    obtain ⟨v', w', hrun, h2, h3, _⟩ := run_append_own (P := Try.prog) w base 37 o.type 41 ib _ 2 32 Try.underlying37 hib hz0 hz1 hz2 rfl (by decide) v l.length (flatBr l) hown ⟨b, 0, none⟩ 1 1 (flatBr [p]) rfl (br_news hnew) (flatBr_ones [p]) (by unfold maxLen; omega) (by omega) hbase
    unfold Oper.wp execOp
    simp only [ho, resolve, invoke, builtin, Sem.run_bind, Sem.run_pure, Result.andThen_ok, List.map_toArray, List.map_cons, List.map_nil, hs, hx, hrun]
    exact hK _ _ (h v' w' (by unfold OwnBr; rw [List.length_append, flatBr_append]; exact h2) h3)
theorem wpList_make_br {w : World} {ops : Array Oper} {rest : List Oper} {o : Oper} {a : Act} {Q : Exit → Act → World → Prop} (hgd : o.guard = none) (l c : Operand) (hop : o.op = Op.makeSlice 37 l c)
    (C : Int) (n : Nat) (hl : a.eval l = .int .i64 0) (hc : a.eval c = .int .i64 C) (hC : C = (n : Int)) (hn : n ≤ 1073741824)
    (hK : ∀ w', OwnBr w' w.heap.size (.slice (some ⟨w.heap.size, 0, none⟩) 0 n) [] → Below w.heap.size w w' → wpList Try.prog ops Q rest (a.put o.dst (.slice (some ⟨w.heap.size, 0, none⟩) 0 n)) w') : wpList Try.prog ops Q (o :: rest) a w := by
  obtain ⟨ib, hib, hz0, hz1, hz2⟩ := info_parts infoBr
  exact wpList_make_own w hgd l c 37 hop w.heap.size 41 ib _ 2 Try.underlying37 hib hz0 hz1 .i64 .i64 C n hl hc hC (by rw [hz2]; omega) (by unfold maxLen; omega) (Nat.le_refl _)
    fun w' h1 h2 => hK w' h1 ⟨h2.os, h2.tape, h2.output, h2.size, fun k hk => h2.block k hk (by simp)⟩
/-- What compares two branches. -/
theorem hdCmp_any (x y : HdE) (W : World) (hx : ItRow W x.A x.s) (hy : ItRow W y.A y.s) (h1 : x.s.length ≤ 1073741824) (h2 : y.s.length ≤ 1073741824) :
    Calls Try.prog 71 #[.agg (brC x), .agg (brC y)] W (AnsGd W (.int .i64 (stC x.s y.s))) := by
  have hb1 := GrwD.alloc W (.cells (brC x) 41)
  have hb2 := GrwD.alloc (W.alloc (.cells (brC x) 41)) (.cells (brC y) 41)
  have HB := Lib.hid (hb1.trans hb2)
  have HX := Lib.hid ((Blk.new W (brC x) 41).later hb2.below)
  have HY := Lib.hid (Blk.new (W.alloc (.cells (brC x) 41)) (brC y) 41)
  have HC := Lib.hid (icompareD x.s y.s x.A y.A x.cap y.cap _ (hx.later HB.out.below) (hy.later HB.out.below) h1 h2)
  rw [World.size_alloc] at HY
  clear hb1 hb2 hx hy
  go_enter Try.func71, Try.ntmps71
  go_upto_region 1 with (fail)
  unfold brC at HX HY HB HC ⊢
  generalize (W.alloc (.cells #[.slice x.A x.s.length x.cap, .int .i64 (x.many : Int)] 41)).alloc (.cells #[.slice y.A y.s.length y.cap, .int .i64 (y.many : Int)] 41) = w1 at *
  have c0 := HX.out.cell 0
  have d0 := HY.out.cell 0
  simp at c0 d0
  go_wp2_with fail
  refine HC.out.mono ?_
  rintro e w2 ⟨rfl, hg⟩
  have HG := Lib.hid (HB.out.trans hg)
  clear hg HC
  generalize stC x.s y.s = q at *
  go_wp2
  go_ret
  exact ⟨rfl, HG.out⟩
end Go.Proofs.Ytidoofdofdhjpaa
/- Branches sorted. -/
namespace Go.Proofs.Ytidoofdofdhjpaa
open Go Go.RowKit
set_option linter.unusedVariables false
set_option linter.unusedSimpArgs false
set_option maxRecDepth 100000
set_option maxHeartbeats 16000000

/-- The branch of a place, or one of nothing. -/
def hdAt (D : List HdE) : Option (Fin D.length) → HdE
  | none => hd0
  | some i => D.get i
def encHd (D : List HdE) (i : Option (Fin D.length)) : List Value := (brC (hdAt D i)).toList
def hdCf (D : List HdE) (i j : Option (Fin D.length)) : Int := stC (hdAt D i).s (hdAt D j).s
theorem hd_swo (D : List HdE) : Go.Sort.SWO (ltOf (hdCf D)) where
  irrefl x := by unfold ltOf hdCf; rw [stC_self]; rfl
  trans x y z h1 h2 := by
    unfold ltOf hdCf at *
    rw [decide_eq_true_iff] at *
    have a1 := stC_three (hdAt D x).s (hdAt D y).s
    have a2 := stC_three (hdAt D y).s (hdAt D z).s
    rw [stC_trans (b := (hdAt D y).s) (by omega) (by omega)]; omega
  ntrans x y z h1 h2 := by
    unfold ltOf hdCf at *
    rw [decide_eq_false_iff_not] at *
    intro h3
    have a1 := stC_three (hdAt D x).s (hdAt D y).s
    have a2 := stC_three (hdAt D x).s (hdAt D z).s
    rcases a1 with h | h | h
    · omega
    · rw [(stC_zero _ _).1 h] at h3; exact h2 h3
    · have h4 := stC_neg (hdAt D x).s (hdAt D y).s
      have h5 := stC_trans (a := (hdAt D y).s) (b := (hdAt D x).s) (c := (hdAt D z).s) (by omega) (by omega)
      omega
def hdAll (D : List HdE) : Array (Option (Fin D.length)) := ((List.finRange D.length).map some).toArray
theorem hdAll_size (D : List HdE) : (hdAll D).size = D.length := by unfold hdAll; simp
theorem hdAll_map (D : List HdE) : (hdAll D).toList.map (hdAt D) = D := by
  unfold hdAll
  simp only [List.map_map]
  apply List.ext_getElem
  · simp
  · intro i h1 h2
    simp [hdAt]
theorem flatKB_eq (D : List HdE) (d : Array (Option (Fin D.length))) : (Go.Sort.flatK (encHd D) 2 d).toList = flatBr (d.toList.map (hdAt D)) := by
  apply List.ext_getElem?
  intro t
  have hsz : (Go.Sort.flatK (encHd D) 2 d).size = d.size * 2 := Go.Sort.size_flatK _ _ _
  by_cases ht : t < d.size * 2
  · have hd : t / 2 < d.size := by omega
    have hm : t % 2 < 2 := Nat.mod_lt _ (by decide)
    have h1 := flatBr_get (d.toList.map (hdAt D)) (t / 2) (t % 2) (by simpa using hd) hm
    rw [show t / 2 * 2 + t % 2 = t by omega] at h1
    rw [h1]
    have hs : t < (Go.Sort.flatK (encHd D) 2 d).size := by rw [hsz]; exact ht
    rw [Array.getElem?_toList, Array.getElem?_eq_getElem hs]
    have h2 := Go.Sort.get_flatK (encHd D) 2 d t ht
    rw [getElem!_pos _ t hs] at h2
    rw [h2]
    have e1 : hdAt D d[t / 2]! = (d.toList.map (hdAt D)).getD (t / 2) hd0 := by
      rw [getElem!_pos d (t / 2) hd, List.getD_eq_getElem?_getD, List.getElem?_map, Array.getElem?_toList, Array.getElem?_eq_getElem hd]; rfl
    rw [← e1]
    unfold encHd
    generalize hdAt D d[t / 2]! = y
    have hl : t % 2 < (brC y).toList.length := by rw [brC_size]; exact hm
    rw [getElem!_pos (brC y).toList (t % 2) hl, ← Array.getElem?_toList, List.getElem?_eq_getElem hl]
  · rw [List.getElem?_eq_none (by rw [Array.length_toList, hsz]; omega), List.getElem?_eq_none (by rw [flatBr_length]; simp; omega)]
theorem sortW_grown {α : Type} [Inhabited α] (enc : α → List Value) (k : Nat) (w : World) (g off m : Nat) (d : Array α) (os : Array Obj) : w.grownBy (sortWorldK enc k w g off m d os) (some g) := by
  refine ⟨rfl, rfl, rfl, ?_, fun j hj hne => ?_⟩
  · unfold sortWorldK Go.Sort.grow Go.Sort.putRowK Go.Sort.putRow Go.Sort.mapBlock Go.Sort.ahead; simp
  · unfold sortWorldK Go.Sort.grow Go.Sort.putRowK Go.Sort.putRow Go.Sort.mapBlock Go.Sort.ahead
    simp only [Array.getElem?_append, Array.size_modify, hj, if_true, Array.getElem?_modify]
    rw [if_neg (fun e => hne (by rw [e]))]
/-- slices.SortFunc, of branches by their states. -/
theorem hdSort_any (D : List HdE) (B B2 cap g : Nat) (w : World) (h : OwnBr w B (.slice (some ⟨g, 0, none⟩) D.length cap) D) (hg : ∃ cur, Blk w g cur 41) (hr : ∀ e ∈ D, OwnIt w B2 e.v e.s) (hl : ∀ e ∈ D, e.s.length ≤ 1073741824) (hn : D.length ≤ 1000000) (hnd : (D.map HdE.s).Nodup) :
    Calls Try.prog 56 #[.slice (some ⟨g, 0, none⟩) D.length cap, .func (.func 71) #[] #[]] w (fun e w' => e = .returned (.tuple #[]) ∧ ∃ D', D'.Perm D ∧ D'.Pairwise (fun a b => stC a.s b.s = -1) ∧ OwnBr w' B (.slice (some ⟨g, 0, none⟩) D.length cap) D' ∧ w.grownBy w' (some g)) := by
  obtain ⟨cur0, hgb⟩ := hg
  have hF : ∀ d : Array (Option (Fin D.length)), (Go.Sort.flatK (encHd D) 2 d).size = d.size * 2 := fun d => Go.Sort.size_flatK _ _ _
  have hHH : Go.Sort.HoldsK (encHd D) 2 w g 0 (hdAll D) := fun j hj => by
    rw [hF, hdAll_size] at hj
    refine ⟨?_, hgb.frozen _⟩
    obtain ⟨a, c, e1, -, hrow⟩ := h.row
    cases e1
    have hs : j < (Go.Sort.flatK (encHd D) 2 (hdAll D)).size := by rw [hF, hdAll_size]; exact hj
    obtain ⟨b, o, e2, -, hc⟩ := hrow (j / 2) (by omega)
    cases e2
    have h1 := hc (j % 2) (Nat.mod_lt _ (by decide))
    rw [Nat.zero_add, show j / 2 * 2 + j % 2 = j by omega] at h1
    rw [Nat.zero_add, h1, getElem!_pos _ j hs]
    have h2 := flatBr_get D (j / 2) (j % 2) (by omega) (Nat.mod_lt _ (by decide))
    rw [show j / 2 * 2 + j % 2 = j by omega] at h2
    have h3 := flatKB_eq D (hdAll D)
    rw [hdAll_map] at h3
    rw [← h2, ← h3, Array.getElem?_toList, Array.getElem?_eq_getElem hs]
    rfl
  have hcmp : CmpLays Try.prog 71 #[] (encHd D) 2 (hdCf D) g 0 (hdAll D).size w := fun m os dk hdk x y => by
    have hW := sortW_grown (encHd D) 2 w g 0 m dk os
    generalize sortWorldK (encHd D) 2 w g 0 m dk os = W at *
    have hi : ∀ i, ItRow W (hdAt D i).A (hdAt D i).s ∧ (hdAt D i).s.length ≤ 1073741824 := fun i => by
      cases i with
      | none => exact ⟨ItRow.nil _ _, by simp [hdAt, hd0]⟩
      | some i =>
        have hm : D.get i ∈ D := List.get_mem _ _
        have h1 := World.ownsRow.kept (hr _ hm) hW (.inr (own_not (hr _ hm) hgb (by decide)))
        obtain ⟨a, c, e1, -, h2⟩ := OwnIt.row h1
        unfold HdE.v at e1
        injection e1 with e2
        refine ⟨?_, hl _ hm⟩
        show ItRow W (D.get i).A (D.get i).s
        rw [e2]; exact h2
    have := hdCmp_any (hdAt D x) (hdAt D y) W (hi x).1 (hi y).1 (hi x).2 (hi y).2
    exact this.mono fun e w' hh => hh
  have hc := AnyQ.slices_SortFunc laysSortB 2 (fun w => Try.isAgg41 w) (fun w => Try.sizeOf41 w) (encHd D) (fun _ => rfl) (fun p u hu => flatBr_ones [hdAt D p] u (by unfold flatBr; exact List.mem_append_left _ hu)) (hdCf D) (hd_swo D) 71 #[] g 0 cap (hdAll D) w (enters_of Try.func71 (by kernel_rfl) rfl) hcmp hHH hgb.lt (by rw [hdAll_size]; omega)
  rw [hdAll_size] at hc
  refine hc.mono ?_
  rintro e w' ⟨rfl, d', n, os, hp, hs, rfl⟩
  have hsz : d'.size = D.length := by rw [hp.1, hdAll_size]
  have hperm : d'.toList.Perm (hdAll D).toList := by
    have h1 := hp.2.2
    have e0 : ∀ x : Array (Option (Fin D.length)), x.size = D.length → (x.extract 0 D.length).toList = x.toList := fun x hx => by
      rw [Array.toList_extract]
      have : x.toList.length = D.length := by rw [Array.length_toList, hx]
      simp [List.extract, List.take_of_length_le, this]
    rw [e0 _ hsz, e0 _ (hdAll_size D)] at h1
    exact h1
  have hD : (d'.toList.map (hdAt D)).Perm D := by
    have := hperm.map (hdAt D)
    rwa [hdAll_map] at this
  refine ⟨rfl, d'.toList.map (hdAt D), hD, ?_, ?_, sortW_grown _ _ _ _ _ _ _ _⟩
  · have hnd2 : ((d'.toList.map (hdAt D)).map HdE.s).Nodup := (hD.map HdE.s).nodup_iff.2 hnd
    rw [List.pairwise_iff_getElem]
    intro i j hi hj hij
    rw [List.length_map, Array.length_toList] at hi hj
    have h1 := hs i j (Nat.zero_le _) hij (by rw [← hsz]; exact hj)
    unfold ltOf hdCf at h1
    rw [decide_eq_false_iff_not, getElem!_pos d' i hi, getElem!_pos d' j hj] at h1
    simp only [List.getElem_map, Array.getElem_toList]
    have h2 : (hdAt D d'[i]).s ≠ (hdAt D d'[j]).s := fun e => by
      have := (List.pairwise_iff_getElem.1 hnd2) i j (by simpa using hi) (by simpa using hj) hij
      simp only [List.getElem_map, Array.getElem_toList] at this
      exact this e
    have h3 := stC_three (hdAt D d'[j]).s (hdAt D d'[i]).s
    have h4 := stC_neg (hdAt D d'[i]).s (hdAt D d'[j]).s
    rcases h3 with h3 | h3 | h3
    · omega
    · exact absurd ((stC_zero _ _).1 h3).symm h2
    · omega
  · obtain ⟨h0, ⟨hv, hn0⟩ | ⟨g2, cap2, cur, hv, hb, hgg, hcc, hmm, hss, htt⟩⟩ := h
    · cases hv
    · cases hv
      have hF2 := hF d'
      obtain ⟨F, hFe⟩ : ∃ F, F = Go.Sort.flatK (encHd D) 2 d' := ⟨_, rfl⟩
      have hgb2 : w.heap[g]? = some (Obj.cells cur 41) := hgg
      have hheap : (sortWorldK (encHd D) 2 w g 0 n d' os).heap[g]? = some (Obj.cells (Go.Sort.putCells id 0 F cur) 41) := by
        have hlt : g < w.heap.size := hgb.lt
        unfold sortWorldK Go.Sort.grow Go.Sort.putRowK Go.Sort.putRow Go.Sort.mapBlock Go.Sort.ahead
        simp only [Array.getElem?_append, Array.size_modify, hlt, if_true, Array.getElem?_modify]
        rw [hgb2, ← hFe]; rfl
      have hlen : (d'.toList.map (hdAt D)).length = D.length := by rw [List.length_map, Array.length_toList, hsz]
      refine ⟨flatBr_length _, .inr ⟨g, cap, Go.Sort.putCells id 0 F cur, by rw [hlen], hb, hheap, by rw [hlen]; exact hcc, hmm, by unfold Go.Sort.putCells; rw [Array.size_mapIdx]; exact hss, ?_⟩⟩
      rw [hlen, ← flatKB_eq]
      apply List.ext_getElem?
      intro t
      by_cases ht : t < D.length * 2
      · rw [List.getElem?_take, if_pos ht, Array.getElem?_toList]
        unfold Go.Sort.putCells
        have htc : t < cur.size := by have := Nat.mul_le_mul_right 2 hcc; omega
        rw [Array.getElem?_mapIdx, Array.getElem?_eq_getElem htc, Option.map_some, if_pos ⟨Nat.zero_le _, by rw [hFe, hF2, hsz]; omega⟩, Nat.sub_zero, Array.getElem?_toList, ← hFe, Array.getElem?_eq_getElem (by rw [hFe, hF2, hsz]; exact ht), getElem!_pos _ t (by rw [hFe, hF2, hsz]; exact ht)]; rfl
      · rw [List.getElem?_take, if_neg ht, List.getElem?_eq_none (by rw [Array.length_toList, hF2, hsz]; omega)]
end Go.Proofs.Ytidoofdofdhjpaa
/- Branches sorted, maybe not strictly: walked. -/
namespace Go.Proofs.Ytidoofdofdhjpaa
open Go Go.RowKit
set_option linter.unusedVariables false
set_option linter.unusedSimpArgs false
set_option maxRecDepth 100000
set_option maxHeartbeats 16000000

/-- What compares two branches. -/
theorem nxCmp_any (x y : HdE) (W : World) (hx : ItRow W x.A x.s) (hy : ItRow W y.A y.s) (h1 : x.s.length ≤ 1073741824) (h2 : y.s.length ≤ 1073741824) :
    Calls Try.prog 57 #[.agg (brC x), .agg (brC y)] W (AnsGd W (.int .i64 (stC x.s y.s))) := by
  have hb1 := GrwD.alloc W (.cells (brC x) 41)
  have hb2 := GrwD.alloc (W.alloc (.cells (brC x) 41)) (.cells (brC y) 41)
  have HB := Lib.hid (hb1.trans hb2)
  have HX := Lib.hid ((Blk.new W (brC x) 41).later hb2.below)
  have HY := Lib.hid (Blk.new (W.alloc (.cells (brC x) 41)) (brC y) 41)
  have HC := Lib.hid (icompareD x.s y.s x.A y.A x.cap y.cap _ (hx.later HB.out.below) (hy.later HB.out.below) h1 h2)
  rw [World.size_alloc] at HY
  clear hb1 hb2 hx hy
  go_enter Try.func57, Try.ntmps57
  go_upto_region 1 with (fail)
  unfold brC at HX HY HB HC ⊢
  generalize (W.alloc (.cells #[.slice x.A x.s.length x.cap, .int .i64 (x.many : Int)] 41)).alloc (.cells #[.slice y.A y.s.length y.cap, .int .i64 (y.many : Int)] 41) = w1 at *
  have c0 := HX.out.cell 0
  have d0 := HY.out.cell 0
  simp at c0 d0
  go_wp2_with fail
  refine HC.out.mono ?_
  rintro e w2 ⟨rfl, hg⟩
  have HG := Lib.hid (HB.out.trans hg)
  clear hg HC
  generalize stC x.s y.s = q at *
  go_wp2
  go_ret
  exact ⟨rfl, HG.out⟩
/-- slices.SortFunc, of branches by their states. -/
theorem nxSortA_any (D : List HdE) (B B2 cap g : Nat) (w : World) (h : OwnBr w B (.slice (some ⟨g, 0, none⟩) D.length cap) D) (hg : ∃ cur, Blk w g cur 41) (hr : ∀ e ∈ D, OwnIt w B2 e.v e.s) (hl : ∀ e ∈ D, e.s.length ≤ 1073741824) (hn : D.length ≤ 1000000) :
    Calls Try.prog 56 #[.slice (some ⟨g, 0, none⟩) D.length cap, .func (.func 57) #[] #[]] w (fun e w' => e = .returned (.tuple #[]) ∧ ∃ D', D'.Perm D ∧ D'.Pairwise (fun a b => stC a.s b.s ≤ 0) ∧ OwnBr w' B (.slice (some ⟨g, 0, none⟩) D.length cap) D' ∧ w.grownBy w' (some g)) := by
  obtain ⟨cur0, hgb⟩ := hg
  have hF : ∀ d : Array (Option (Fin D.length)), (Go.Sort.flatK (encHd D) 2 d).size = d.size * 2 := fun d => Go.Sort.size_flatK _ _ _
  have hHH : Go.Sort.HoldsK (encHd D) 2 w g 0 (hdAll D) := fun j hj => by
    rw [hF, hdAll_size] at hj
    refine ⟨?_, hgb.frozen _⟩
    obtain ⟨a, c, e1, -, hrow⟩ := h.row
    cases e1
    have hs : j < (Go.Sort.flatK (encHd D) 2 (hdAll D)).size := by rw [hF, hdAll_size]; exact hj
    obtain ⟨b, o, e2, -, hc⟩ := hrow (j / 2) (by omega)
    cases e2
    have h1 := hc (j % 2) (Nat.mod_lt _ (by decide))
    rw [Nat.zero_add, show j / 2 * 2 + j % 2 = j by omega] at h1
    rw [Nat.zero_add, h1, getElem!_pos _ j hs]
    have h2 := flatBr_get D (j / 2) (j % 2) (by omega) (Nat.mod_lt _ (by decide))
    rw [show j / 2 * 2 + j % 2 = j by omega] at h2
    have h3 := flatKB_eq D (hdAll D)
    rw [hdAll_map] at h3
    rw [← h2, ← h3, Array.getElem?_toList, Array.getElem?_eq_getElem hs]
    rfl
  have hcmp : CmpLays Try.prog 57 #[] (encHd D) 2 (hdCf D) g 0 (hdAll D).size w := fun m os dk hdk x y => by
    have hW := sortW_grown (encHd D) 2 w g 0 m dk os
    generalize sortWorldK (encHd D) 2 w g 0 m dk os = W at *
    have hi : ∀ i, ItRow W (hdAt D i).A (hdAt D i).s ∧ (hdAt D i).s.length ≤ 1073741824 := fun i => by
      cases i with
      | none => exact ⟨ItRow.nil _ _, by simp [hdAt, hd0]⟩
      | some i =>
        have hm : D.get i ∈ D := List.get_mem _ _
        have h1 := World.ownsRow.kept (hr _ hm) hW (.inr (own_not (hr _ hm) hgb (by decide)))
        obtain ⟨a, c, e1, -, h2⟩ := OwnIt.row h1
        unfold HdE.v at e1
        injection e1 with e2
        refine ⟨?_, hl _ hm⟩
        show ItRow W (D.get i).A (D.get i).s
        rw [e2]; exact h2
    have := nxCmp_any (hdAt D x) (hdAt D y) W (hi x).1 (hi y).1 (hi x).2 (hi y).2
    exact this.mono fun e w' hh => hh
  have hc := AnyQ.slices_SortFunc laysSortB 2 (fun w => Try.isAgg41 w) (fun w => Try.sizeOf41 w) (encHd D) (fun _ => rfl) (fun p u hu => flatBr_ones [hdAt D p] u (by unfold flatBr; exact List.mem_append_left _ hu)) (hdCf D) (hd_swo D) 57 #[] g 0 cap (hdAll D) w (enters_of Try.func57 (by kernel_rfl) rfl) hcmp hHH hgb.lt (by rw [hdAll_size]; omega)
  rw [hdAll_size] at hc
  refine hc.mono ?_
  rintro e w' ⟨rfl, d', n, os, hp, hs, rfl⟩
  have hsz : d'.size = D.length := by rw [hp.1, hdAll_size]
  have hperm : d'.toList.Perm (hdAll D).toList := by
    have h1 := hp.2.2
    have e0 : ∀ x : Array (Option (Fin D.length)), x.size = D.length → (x.extract 0 D.length).toList = x.toList := fun x hx => by
      rw [Array.toList_extract]
      have : x.toList.length = D.length := by rw [Array.length_toList, hx]
      simp [List.extract, List.take_of_length_le, this]
    rw [e0 _ hsz, e0 _ (hdAll_size D)] at h1
    exact h1
  have hD : (d'.toList.map (hdAt D)).Perm D := by
    have := hperm.map (hdAt D)
    rwa [hdAll_map] at this
  refine ⟨rfl, d'.toList.map (hdAt D), hD, ?_, ?_, sortW_grown _ _ _ _ _ _ _ _⟩
  · rw [List.pairwise_iff_getElem]
    intro i j hi hj hij
    rw [List.length_map, Array.length_toList] at hi hj
    have h1 := hs i j (Nat.zero_le _) hij (by rw [← hsz]; exact hj)
    unfold ltOf hdCf at h1
    rw [decide_eq_false_iff_not, getElem!_pos d' i hi, getElem!_pos d' j hj] at h1
    simp only [List.getElem_map, Array.getElem_toList]
    have h4 := stC_neg (hdAt D d'[i]).s (hdAt D d'[j]).s
    omega
  · obtain ⟨h0, ⟨hv, hn0⟩ | ⟨g2, cap2, cur, hv, hb, hgg, hcc, hmm, hss, htt⟩⟩ := h
    · cases hv
    · cases hv
      have hF2 := hF d'
      obtain ⟨F, hFe⟩ : ∃ F, F = Go.Sort.flatK (encHd D) 2 d' := ⟨_, rfl⟩
      have hgb2 : w.heap[g]? = some (Obj.cells cur 41) := hgg
      have hheap : (sortWorldK (encHd D) 2 w g 0 n d' os).heap[g]? = some (Obj.cells (Go.Sort.putCells id 0 F cur) 41) := by
        have hlt : g < w.heap.size := hgb.lt
        unfold sortWorldK Go.Sort.grow Go.Sort.putRowK Go.Sort.putRow Go.Sort.mapBlock Go.Sort.ahead
        simp only [Array.getElem?_append, Array.size_modify, hlt, if_true, Array.getElem?_modify]
        rw [hgb2, ← hFe]; rfl
      have hlen : (d'.toList.map (hdAt D)).length = D.length := by rw [List.length_map, Array.length_toList, hsz]
      refine ⟨flatBr_length _, .inr ⟨g, cap, Go.Sort.putCells id 0 F cur, by rw [hlen], hb, hheap, by rw [hlen]; exact hcc, hmm, by unfold Go.Sort.putCells; rw [Array.size_mapIdx]; exact hss, ?_⟩⟩
      rw [hlen, ← flatKB_eq]
      apply List.ext_getElem?
      intro t
      by_cases ht : t < D.length * 2
      · rw [List.getElem?_take, if_pos ht, Array.getElem?_toList]
        unfold Go.Sort.putCells
        have htc : t < cur.size := by have := Nat.mul_le_mul_right 2 hcc; omega
        rw [Array.getElem?_mapIdx, Array.getElem?_eq_getElem htc, Option.map_some, if_pos ⟨Nat.zero_le _, by rw [hFe, hF2, hsz]; omega⟩, Nat.sub_zero, Array.getElem?_toList, ← hFe, Array.getElem?_eq_getElem (by rw [hFe, hF2, hsz]; exact ht), getElem!_pos _ t (by rw [hFe, hF2, hsz]; exact ht)]; rfl
      · rw [List.getElem?_take, if_neg ht, List.getElem?_eq_none (by rw [Array.length_toList, hF2, hsz]; omega)]
/-- .. whatever their row is, nil too. -/
theorem nxSort_any (D : List HdE) (B B2 : Nat) (v : Value) (w : World) (h : OwnBr w B v D) (hr : ∀ e ∈ D, OwnIt w B2 e.v e.s) (hl : ∀ e ∈ D, e.s.length ≤ 1073741824) (hn : D.length ≤ 1000000) :
    Calls Try.prog 56 #[v, .func (.func 57) #[] #[]] w (fun e w' => e = .returned (.tuple #[]) ∧ ∃ D', D'.Perm D ∧ D'.Pairwise (fun a b => stC a.s b.s ≤ 0) ∧ OwnBr w' B v D' ∧ w.grownBy w' v.ownBlock) := by
  have h' := h
  obtain ⟨_, ⟨hv, hn0⟩ | ⟨g, cap, cur, hv, -, hgg, -⟩⟩ := h
  · subst hv
    have hD : D = [] := List.length_eq_zero_iff.1 hn0
    subst hD
    refine (AnyF.slices_SortFunc_none laysSortB none 0 _ w).mono ?_
    rintro e w' ⟨rfl, rfl⟩
    exact ⟨rfl, [], List.Perm.refl _, List.Pairwise.nil, h', World.grownBy.refl _ _⟩
  · subst hv
    exact nxSortA_any D B B2 cap g w h' ⟨cur, hgg⟩ hr hl hn
end Go.Proofs.Ytidoofdofdhjpaa
