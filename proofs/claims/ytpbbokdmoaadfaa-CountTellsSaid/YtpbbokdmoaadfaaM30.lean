/- Rows of values that a call owns; appends. -/
import Derived.Test.YtpbbokdmoaadfaaM29
import Derived.Test.YtpbbokdmoaadfaaM25
import Derived.Test.YtpbbokdmoaadfaaM18
import Derived.Shelf.SlicesQ.Reverse
namespace Go.Proofs.Ytpbbokdmoaadfaa
open Go Go.RowKit
set_option linter.unusedVariables false
set_option linter.unusedSimpArgs false
structure VCl where
  v : Vl
  B : Option Addr
  c : Nat
def vcl0 : VCl := ⟨vl0, none, 0⟩
def VCl.cells (x : VCl) : Array Value := vlC x.v x.B x.c
def flatV : List VCl -> List Value
  | [] => []
  | t :: l => t.cells.toList ++ flatV l
theorem VCl.five (t : VCl) : t.cells.toList.length = 5 := rfl
theorem flatV_length : ∀ l, (flatV l).length = l.length * 5
  | [] => rfl
  | t :: l => by rw [flatV, List.length_append, flatV_length l, VCl.five, List.length_cons]; omega
theorem flatV_append : ∀ l m, flatV (l ++ m) = flatV l ++ flatV m
  | [], m => rfl
  | t :: l, m => by show t.cells.toList ++ flatV (l ++ m) = _; rw [flatV_append l m, flatV, List.append_assoc]
theorem flatV_get : ∀ (l : List VCl) (i j : Nat), i < l.length -> j < 5 -> (flatV l)[i * 5 + j]? = (l.getD i vcl0).cells[j]?
  | [], i, j, h, _ => by simp at h
  | s :: l, 0, j, _, hj => by
    rw [flatV, List.getElem?_append_left (by rw [VCl.five]; omega)]
    simp
  | s :: l, i + 1, j, hi, hj => by
    have ih := flatV_get l i j (by simpa using hi) hj
    show (s.cells.toList ++ flatV l)[(i + 1) * 5 + j]? = _
    rw [List.getElem?_append_right (by rw [VCl.five]; omega), VCl.five, show (i + 1) * 5 + j - 5 = i * 5 + j by omega, ih]
    simp
theorem flatV_ones : ∀ (l : List VCl) (u : Value), u ∈ flatV l -> u.oneCell' = true
  | [], u, h => by cases h
  | t :: l, u, h => by
    rw [flatV, List.mem_append] at h
    rcases h with h | h
    · simp [VCl.cells, vlC] at h
      rcases h with rfl | rfl | rfl | rfl | rfl <;> rfl
    · exact flatV_ones l u h
def ClRow (w : World) (a : Option Addr) (l : List VCl) : Prop :=
  ∀ i, i < l.length -> ∃ b off, a = some ⟨b, off, none⟩ /\ b < w.heap.size /\ ∀ j, j < 5 -> w.cell? ⟨b, off + i * 5 + j, none⟩ = (l.getD i vcl0).cells[j]?
def OwnVs (w : World) (base : Nat) (v : Value) (l : List VCl) : Prop := w.ownsRow base 32 5 v l.length (flatV l)
theorem OwnVs.later {w w' : World} {base : Nat} {v : Value} {l : List VCl} (h : OwnVs w base v l) (hb : Below w.heap.size w w') : OwnVs w' base v l := ownsRow_later h hb
theorem OwnVs.row {w : World} {base : Nat} {v : Value} {l : List VCl} (h : OwnVs w base v l) : ∃ a cap, v = .slice a l.length cap /\ l.length <= cap /\ ClRow w a l := by
  obtain ⟨_, ⟨hv, hn⟩ | ⟨g, cap, cur, hv, hb, hg, hc, hm, hs, ht⟩⟩ := h
  · have : l = [] := List.length_eq_zero_iff.1 hn
    subst this
    exact ⟨none, 0, hv, Nat.le_refl _, fun i hi => by simp at hi⟩
  · refine ⟨_, cap, hv, hc, fun i hi => ⟨g, 0, rfl, Blk.lt (w := w) (b := g) (vs := cur) (t := 32) hg, fun j hj => ?_⟩⟩
    rw [Blk.cell (w := w) (b := g) (vs := cur) (t := 32) hg, <- flatV_get l i j hi hj, <- ht, List.getElem?_take, if_pos (by omega)]
    simp
theorem infoVal : (Try.prog.info? 32).map (fun i => (i.zero, i.size, i.bytes)) = some (some (.agg #[.int .i64 0, .int .u8 0, .string ⟨#[]⟩, .int .i64 0, .slice none 0 0]), 5, 64) := by kernel_rfl
end Go.Proofs.Ytpbbokdmoaadfaa
namespace Go.Proofs.Ytpbbokdmoaadfaa
open Go Go.RowKit Go.Sort
set_option linter.unusedVariables false
set_option linter.unusedSimpArgs false
set_option maxRecDepth 100000
def laysRevV_ren : Go.Shelf.Ren := ⟨fun | 35 => 75 | n => n, fun | 0 => 0 | 3 => 3 | 4 => 4 | 22 => 30 | 23 => 32 | n => n, fun n => n⟩
theorem laysRevV : SlLaysE0.n35 Try.prog laysRevV_ren := {
  mixed := by kernel_rfl,
  f35 := ⟨Try.f75.name, by kernel_rfl, Try.func75.trans (congrArg some (by kernel_rfl))⟩,
  t0 := Try.underlying0,
  a0 := Try.isAgg0,
  z0 := Try.sizeOf0,
  v0 := Try.zeroValue0,
  t3 := Try.underlying3,
  a3 := Try.isAgg3,
  z3 := Try.sizeOf3,
  v3 := Try.zeroValue3,
  t4 := Try.underlying4,
  a4 := Try.isAgg4,
  z4 := Try.sizeOf4,
  v4 := Try.zeroValue4,
  t22 := Try.underlying30,
  a22 := Try.isAgg30,
  z22 := Try.sizeOf30,
  v22 := Try.zeroValue30 }
theorem OwnVs.blk {w : World} {base : Nat} {v : Value} {l : List VCl} (h : OwnVs w base v l) (hl : 0 < l.length) : ∃ g cap cur, v = .slice (some ⟨g, 0, none⟩) l.length cap /\ base <= g /\ Blk w g cur 32 /\ l.length <= cap /\ cap <= maxLen /\ cur.size = cap * 5 /\ cur.toList.take (l.length * 5) = flatV l := by
  obtain ⟨hx, h2⟩ := h
  rcases h2 with ⟨-, h2⟩ | ⟨g, cap, cur, h3, h4, h5, h6, h7, h8, h9⟩
  · omega
  · exact ⟨g, cap, cur, h3, h4, h5, h6, h7, h8, h9⟩
instance : Inhabited VCl := ⟨vcl0⟩
def encVc (p : VCl) : List Value := p.cells.toList
theorem encVc_len (p : VCl) : (encVc p).length = 5 := VCl.five p
theorem flatKV_eq (l : List VCl) : (Go.Sort.flatK encVc 5 l.toArray).toList = flatV l := by
  apply List.ext_getElem?
  intro t
  have hsz : (Go.Sort.flatK encVc 5 l.toArray).size = l.length * 5 := by rw [size_flatK]; simp
  by_cases ht : t < l.length * 5
  · have hd : t / 5 < l.length := by omega
    have hm : t % 5 < 5 := Nat.mod_lt _ (by decide)
    have h1 := flatV_get l (t / 5) (t % 5) hd hm
    rw [show t / 5 * 5 + t % 5 = t by omega] at h1
    rw [h1]
    have hs : t < (Go.Sort.flatK encVc 5 l.toArray).size := by rw [hsz]; exact ht
    rw [Array.getElem?_toList, Array.getElem?_eq_getElem hs]
    have h2 := Go.Sort.get_flatK encVc 5 l.toArray t (by simpa using ht)
    rw [getElem!_pos _ t hs] at h2
    rw [h2]
    have e1 : l.toArray[t / 5]! = l.getD (t / 5) vcl0 := by
      rw [getElem!_pos _ _ (by simpa using hd), List.getD_eq_getElem?_getD, List.getElem?_eq_getElem hd]; rfl
    rw [e1]
    unfold encVc
    have hl : t % 5 < (l.getD (t / 5) vcl0).cells.toList.length := by rw [VCl.five]; exact hm
    rw [getElem!_pos (l.getD (t / 5) vcl0).cells.toList (t % 5) hl, <- Array.getElem?_toList, List.getElem?_eq_getElem hl]
  · rw [List.getElem?_eq_none (by rw [Array.length_toList, hsz]; omega), List.getElem?_eq_none (by rw [flatV_length]; omega)]
theorem revV_any {w : World} {base : Nat} {v : Value} {l : List VCl} (h : OwnVs w base v l) (hl : 0 < l.length) (hm : l.length <= 1000000) :
    Calls Try.prog 75 #[v] w (fun e w' => e = .returned (.tuple #[]) /\ OwnVs w' base v l.reverse /\ w.grownBy w' v.ownBlock) := by
  obtain ⟨g, cap, cur, rfl, hg, hblk, hcap, hmax, hsz, htake⟩ := h.blk hl
  have hF : (Go.Sort.flatK encVc 5 l.toArray).size = l.length * 5 := by rw [size_flatK]; simp
  have hH : HoldsK encVc 5 w g 0 l.toArray := fun j hj => by
    rw [hF] at hj
    refine ⟨?_, hblk.frozen _⟩
    have hs : j < (Go.Sort.flatK encVc 5 l.toArray).size := by rw [hF]; exact hj
    rw [Nat.zero_add, hblk.cell, getElem!_pos _ j hs]
    have e : cur.toList[j]? = (Go.Sort.flatK encVc 5 l.toArray).toList[j]? := by
      rw [flatKV_eq, <- htake, List.getElem?_take, if_pos hj]
    rw [Array.getElem?_toList, Array.getElem?_toList, Array.getElem?_eq_getElem hs] at e
    exact e
  have hc := AnyQ.slices_Reverse laysRevV 5 (fun w => Try.isAgg32 w) (fun w => Try.sizeOf32 w) encVc encVc_len (fun p u hu => flatV_ones [p] u (by unfold flatV; exact List.mem_append_left _ hu)) g 0 cap l.toArray w hH (by simp; omega)
  rw [show l.toArray.size = l.length from by simp] at hc
  refine hc.mono ?_
  rintro e w' ⟨rfl, n, rfl⟩
  have hrev : l.toArray.reverse = l.reverse.toArray := by simp
  rw [hrev]
  have hF2 : (Go.Sort.flatK encVc 5 l.reverse.toArray).size = l.length * 5 := by rw [size_flatK]; simp
  obtain ⟨F, hFe⟩ : ∃ F, F = Go.Sort.flatK encVc 5 l.reverse.toArray := ⟨_, rfl⟩
  have hheap : (putRowK encVc 5 (Go.Sort.ahead w n) g 0 l.reverse.toArray).heap[g]? = some (Obj.cells (putCells id 0 F cur) 32) := by
    unfold putRowK putRow mapBlock Go.Sort.ahead
    simp only [Array.getElem?_modify]
    have hb : w.heap[g]? = some (Obj.cells cur 32) := hblk
    rw [hb, <- hFe]; rfl
  refine ⟨rfl, ⟨flatV_length _, .inr ⟨g, cap, putCells id 0 F cur, by rw [List.length_reverse], hg, hheap, by rw [List.length_reverse]; exact hcap, hmax, by unfold putCells; rw [Array.size_mapIdx]; exact hsz, ?_⟩⟩, ?_⟩
  · rw [List.length_reverse]
    apply List.ext_getElem?
    intro t
    by_cases ht : t < l.length * 5
    · rw [List.getElem?_take, if_pos ht, Array.getElem?_toList]
      unfold putCells
      have htc : t < cur.size := by have := Nat.mul_le_mul_right 5 hcap; omega
      rw [Array.getElem?_mapIdx, Array.getElem?_eq_getElem htc, Option.map_some, if_pos ⟨Nat.zero_le _, by rw [hFe, hF2]; omega⟩, Nat.sub_zero, <- flatKV_eq, Array.getElem?_toList, <- hFe, Array.getElem?_eq_getElem (by rw [hFe, hF2]; exact ht), getElem!_pos _ t (by rw [hFe, hF2]; exact ht)]; rfl
    · rw [List.getElem?_take, if_neg ht, List.getElem?_eq_none (by rw [flatV_length, List.length_reverse]; omega)]
  · refine ⟨rfl, rfl, rfl, ?_, fun k hk hne => ?_⟩
    · unfold putRowK putRow mapBlock Go.Sort.ahead; simp
    · unfold putRowK putRow mapBlock Go.Sort.ahead
      simp only [Array.getElem?_modify]
      rw [if_neg (fun e => hne (by rw [e]; rfl))]
end Go.Proofs.Ytpbbokdmoaadfaa
namespace Go.Proofs.Ytpbbokdmoaadfaa
open Go Go.RowKit
set_option linter.unusedVariables false
set_option linter.unusedSimpArgs false
set_option maxRecDepth 100000
def VRp (p : Nat -> Prop) (w : World) : Option Addr -> Nat -> Vs -> Prop
  | _, _, .nil => True
  | A, i, .cons k b t q ks r => (∃ g o, A = some ⟨g, o, none⟩ /\ g < w.heap.size /\ p g /\ ∃ B c, ks.len <= c /\ (∀ j, j < 5 -> w.cell? ⟨g, o + i * 5 + j, none⟩ = (vlC ⟨k, b, t, q, ks⟩ B c)[j]?) /\ VRp p w B 0 ks) /\ VRp p w A (i + 1) r
theorem VRp.row {p : Nat -> Prop} {w : World} : ∀ {s : Vs} {A : Option Addr} {i : Nat}, VRp p w A i s -> VRow w A i s
  | .nil, A, i, h => trivial
  | .cons k b t q ks r, A, i, h => by
    obtain ⟨⟨g, o, h1, h2, -, B, c, h3, h4, h5⟩, h6⟩ := h
    exact ⟨⟨g, o, h1, h2, B, c, h3, h4, VRp.row h5⟩, VRp.row h6⟩
theorem VRp.keep {p q : Nat -> Prop} {w w' : World} (hs : w.heap.size <= w'.heap.size) (hq : ∀ g, g < w.heap.size -> p g -> q g) (hk : ∀ g, p g -> g < w.heap.size -> ∀ j v, w.cell? ⟨g, j, none⟩ = some v -> w'.cell? ⟨g, j, none⟩ = some v) :
    ∀ {s : Vs} {A : Option Addr} {i : Nat}, VRp p w A i s -> VRp q w' A i s
  | .nil, A, i, h => trivial
  | .cons k b t r ks rs, A, i, h => by
    obtain ⟨⟨g, o, h1, h2, hp, B, c, h3, h4, h5⟩, h6⟩ := h
    refine ⟨⟨g, o, h1, Nat.lt_of_lt_of_le h2 hs, hq g h2 hp, B, c, h3, fun j hj => ?_, VRp.keep hs hq hk h5⟩, VRp.keep hs hq hk h6⟩
    have e : ∃ v, (vlC ⟨k, b, t, r, ks⟩ B c)[j]? = some v := by
      have : (vlC ⟨k, b, t, r, ks⟩ B c).size = 5 := rfl
      exact ⟨_, Array.getElem?_eq_getElem (by omega)⟩
    obtain ⟨v, hv⟩ := e
    rw [hv]
    exact hk g hp h2 _ v ((h4 j hj).trans hv)
theorem VRp.mono {p q : Nat -> Prop} {w : World} {s : Vs} {A : Option Addr} {i : Nat} (h : VRp p w A i s) (hq : ∀ g, g < w.heap.size -> p g -> q g) : VRp q w A i s := h.keep (Nat.le_refl _) hq fun g _ _ j v e => e
theorem VRp.kc {p : Nat -> Prop} {w w' : World} {s : Vs} {A : Option Addr} {i : Nat} (h : VRp p w A i s) (k : Kc w.heap.size w w') : VRp p w' A i s := h.keep k.size (fun g _ e => e) fun g _ hg j v e => k.cell ⟨g, j, none⟩ v hg e
theorem VRp.later {p : Nat -> Prop} {w w' : World} {s : Vs} {A : Option Addr} {i : Nat} (h : VRp p w A i s) (hb : Below w.heap.size w w') : VRp p w' A i s := h.keep hb.size (fun g _ e => e) fun g _ hg j v e => (hb.cell (p := ⟨g, j, none⟩) hg).trans e
theorem VRp.blocks {p : Nat -> Prop} {w w' : World} {s : Vs} {A : Option Addr} {i : Nat} (h : VRp p w A i s) (hs : w.heap.size <= w'.heap.size) (hk : ∀ g, p g -> g < w.heap.size -> w'.heap[g]? = w.heap[g]?) : VRp p w' A i s := h.keep hs (fun g _ e => e) fun g hp hg j v e => by
  have := hk g hp hg
  unfold World.cell? at e ⊢
  simp only at e ⊢
  rw [this]; exact e
def VOk (p : Nat -> Prop) (w : World) (x : VCl) : Prop := x.v.kids.len <= x.c /\ VRp p w x.B 0 x.v.kids
def CKp (p : Nat -> Prop) (w : World) (l : List VCl) : Prop := ∀ x ∈ l, VOk p w x
theorem Vs.of_len (l : List Vl) : (Vs.of l).len = l.length := by unfold Vs.len; rw [Vs.list_of]
theorem VRp.of {p : Nat -> Prop} {w : World} {g o : Nat} (hg : g < w.heap.size) (hp : p g) : ∀ {l : List VCl} {i : Nat}, (∀ x ∈ l, VOk p w x) -> (∀ k, k < l.length -> ∀ j, j < 5 -> w.cell? ⟨g, o + (i + k) * 5 + j, none⟩ = (l.getD k vcl0).cells[j]?) -> VRp p w (some ⟨g, o, none⟩) i (Vs.of (l.map (·.v)))
  | [], i, h, hc => trivial
  | x :: l, i, h, hc => by
    obtain ⟨⟨k, b, t, q, ks⟩, B, c⟩ := x
    have hx := h _ (List.mem_cons_self ..)
    exact ⟨⟨g, o, rfl, hg, hp, B, c, hx.1, hc 0 (by simp), hx.2⟩, VRp.of hg hp (fun y hy => h y (List.mem_cons_of_mem _ hy)) fun k hk j hj => by
      have := hc (k + 1) (by simp; omega) j hj
      rw [show i + 1 + k = i + (k + 1) by omega]; simpa using this⟩
theorem CKp.vrp {p : Nat -> Prop} {w : World} {a : Option Addr} {l : List VCl} (h : CKp p w l) (hr : ClRow w a l) (hp : ∀ b o, a = some ⟨b, o, none⟩ -> l ≠ [] -> p b) : VRp p w a 0 (Vs.of (l.map (·.v))) := by
  cases l with
  | nil => trivial
  | cons x l =>
    obtain ⟨b, off, rfl, hb, -⟩ := hr 0 (by simp)
    refine VRp.of hb (hp b off rfl (by simp)) h fun k hk j hj => ?_
    obtain ⟨b', off', e, -, hc⟩ := hr k hk
    cases e
    rw [Nat.zero_add]
    exact hc j hj
structure Wk (B g rb : Nat) (tt rk : Nat) (tv : Value) (L : List VCl) (w : World) : Prop where
  blk : Blk w g #[.pointer (some ⟨rb, 0, none⟩), .int .i64 (tt : Int), .int .i64 (rk : Int), tv] 102
  low : B <= g
  own : OwnVs w B tv L
  kids : CKp (fun b => B <= b /\ tv.ownBlock ≠ some b /\ b ≠ g) w L
theorem Wk.later {B g rb tt rk : Nat} {tv : Value} {L : List VCl} {w w' : World} (h : Wk B g rb tt rk tv L w) (hb : Below w.heap.size w w') : Wk B g rb tt rk tv L w' := ⟨h.blk.later hb, h.low, h.own.later hb, fun x hx => ⟨(h.kids x hx).1, (h.kids x hx).2.later hb⟩⟩
theorem Wk.kc {B g rb tt rk : Nat} {tv : Value} {L : List VCl} {w w' : World} (h : Wk B g rb tt rk tv L w) (k : Kc w.heap.size w w') : Wk B g rb tt rk tv L w' := ⟨k.block _ h.blk.lt _ _ h.blk, h.low, k.owns h.own, fun x hx => ⟨(h.kids x hx).1, (h.kids x hx).2.kc k⟩⟩
def NwV (B : Nat) (w : World) (v : Value) (xs : List Vl) : Prop := ∃ A c, v = .slice A xs.length c /\ xs.length <= c /\ VRp (fun b => B <= b) w A 0 (Vs.of xs)
theorem revV_nil (a : Option Addr) (cap : Nat) (w : World) : Calls Try.prog 75 #[.slice a 0 cap] w (Ans w (.tuple #[])) := by
  go_enter Try.func75, Try.ntmps75
  go_wp2
  go_loopw [2, 3] (fun i j w' => i = .int .i64 0 /\ j = .int .i64 (-1) /\ w' = w) (fun _ _ _ => 0)
  case atStart => exact ⟨rfl, rfl, rfl⟩
  case round =>
    obtain ⟨rfl, rfl, rfl⟩ := hrel
    go_wp2
    go_end0
    exact ⟨rfl, Below.refl _ _⟩
def InP (B : Nat) (m : Nat) (l : List Nd) (V : Wd) (L : List VCl) (w0 : World) (e : Ending) (w : World) : Prop := ∃ v, e = .returned v /\ NwV B w v ((L.map (·.v)).reverse) /\ Rk m l V B [] w0 w
set_option maxHeartbeats 8000000 in
theorem cinOrder_any {B g rb tt rk m : Nat} {tv : Value} {L : List VCl} {l : List Nd} {V : Wd} (hL : L.length <= 1000000) (w : World) (h : Wk B g rb tt rk tv L w) (hB : B <= w.heap.size) (hm : m < B) :
    Calls Try.prog 61 #[.pointer (some ⟨g, 0, none⟩)] w (InP B m l V L w) := by
  have hmw : w.cell? ⟨g, 3, none⟩ = some tv := by rw [h.blk.cell]; rfl
  by_cases hz : L = []
  · subst hz
    obtain ⟨a, cap, rfl, -, -⟩ := h.own.row
    have HC := Lib.hid (revV_nil a cap)
    have HP : Hid (∀ w', Below w.heap.size w w' -> InP B m l V [] w (.returned (.slice a 0 cap)) w') := fun w' hb => ⟨_, rfl, ⟨a, cap, rfl, Nat.zero_le _, trivial⟩, (Rk.refl w B).later hB hb⟩
    have HW := Lib.hid h
    clear h hL
    go_enter Try.func61, Try.ntmps61
    go_wp2_with fail
    refine (HC.out _).mono ?_; rintro e w2 ⟨rfl, hb2⟩
    have d3 := (HW.out.later hb2).blk.cell 3
    simp at d3
    have HPP := Lib.hid (HP.out _ hb2)
    clear hb2 hmw HP HW HC
    go_wp2
    go_ret
    exact HPP.out
  · have hpos : 0 < L.length := List.length_pos_iff.2 hz
    obtain ⟨gt, cap, cur, hv, hbg, hbt, hlc, -⟩ := h.own.blk hpos
    have HC := Lib.hid (revV_any h.own hpos hL)
    have hne : g ≠ gt := fun e => by
      subst e
      have h1 := h.blk
      unfold Blk at h1 hbt
      rw [h1] at hbt
      have := (Option.some.inj hbt)
      injection this with h2 h3
      exact absurd h3 (by decide)
    have HP : Hid (∀ w', OwnVs w' B tv L.reverse -> w.grownBy w' tv.ownBlock -> InP B m l V L w (.returned tv) w' /\ w'.cell? ⟨g, 3, none⟩ = some tv) := fun w' ho hg => by
      have hnew : ∀ b, b < w.heap.size -> tv.ownBlock ≠ some b -> w'.heap[b]? = w.heap[b]? := fun b hb hn => hg.block b hb (fun e => hn e.symm)
      have hck : CKp (fun b => B <= b) w' L.reverse := fun x hx => by
        obtain ⟨k1, k2⟩ := h.kids x (List.mem_reverse.1 hx)
        exact ⟨k1, (k2.blocks hg.size fun b hb hlt => hnew b hlt hb.2.1).mono fun b _ hb => hb.1⟩
      obtain ⟨a2, cap2, hv2, hlc2, hcl⟩ := ho.row
      refine ⟨⟨tv, rfl, ⟨a2, cap2, by rw [hv2]; simp, by simpa using hlc2, ?_⟩, (Rk.refl w B).growT hB h.own (by decide) hg⟩, ?_⟩
      · rw [<- List.map_reverse]
        refine hck.vrp hcl fun b o e _ => ?_
        rw [hv2] at hv
        injection hv with h1 h2 h3
        rw [e] at h1
        cases h1
        exact hbg
      · have := hnew g h.blk.lt (by rw [hv]; intro e; exact hne (Option.some.inj e).symm)
        unfold World.cell? at hmw ⊢
        simp only at hmw ⊢
        rw [this]; exact hmw
    clear h hL hbt hne hv hlc hbg hpos hz hB hm
    go_enter Try.func61, Try.ntmps61
    go_wp2_with fail
    refine HC.out.mono ?_; rintro e w2 ⟨rfl, ho2, hg2⟩
    obtain ⟨h1, d3⟩ := HP.out _ ho2 hg2
    have HPP := Lib.hid h1
    clear h1 hmw HP HC ho2 hg2
    go_wp2
    go_ret
    exact HPP.out
def ValP (m : Nat) (l : List Nd) (V : Wd) (w0 : World) (v : Vl) (e : Ending) (w : World) : Prop := ∃ x : VCl, e = .returned (.agg x.cells) /\ x.v = v /\ VOk (fun b => w0.heap.size <= b) w x /\ Rk m l V w0.heap.size [] w0 w
def ValC (A : Option Addr) (l : List Nd) (c m : Nat) (V : Wd) (i : Nat) : Prop := ∀ (rb : Nat) (u : Value) (W : Wd) (a b r : Nat) (v : Vl) (w : World), Rdr rb A l c u W V m w -> W <+: V -> a <= b -> b <= W.length -> r <= 1 -> (EN l i (sgW W a b))[r]? = some v ->
  Calls Try.prog 32 #[.pointer (some ⟨rb, 0, none⟩), .int .i64 (i : Int), .int .i64 (a : Int), .int .i64 (b : Int), .int .i64 (r : Int)] w (ValP m l V w v)
structure TlS (m : Nat) (A : Option Addr) (l : List Nd) (c : Nat) (u : Value) (W V : Wd) (rb B g tt rk : Nat) (tv : Value) (L : List VCl) (w0 : World) (w : World) : Prop where
  kp : Rk m l V B [] w0 w
  low : B <= w.heap.size
  rd : Rdr rb A l c u W V m w
  wk : Wk B g rb tt rk tv L w
theorem TlS.grow {m : Nat} {A : Option Addr} {l : List Nd} {c : Nat} {u : Value} {W V : Wd} {rb B g tt rk : Nat} {tv : Value} {L : List VCl} {w0 w w' : World} (h : TlS m A l c u W V rb B g tt rk tv L w0 w) (k : RkR m l V w w') : TlS m A l c u W V rb B g tt rk tv L w0 w' :=
  ⟨h.kp.call h.low k, Nat.le_trans h.low k.size, h.rd.rk k, h.wk.kc (k.kc ⟨_, h.rd.kept⟩)⟩
def St (g : Nat) (w0 w : World) : Prop := ∀ b vs t, t ≠ 32 -> b ≠ g -> Blk w0 b vs t -> Blk w b vs t
theorem St.refl (g : Nat) (w : World) : St g w w := fun _ _ _ _ _ h => h
theorem St.trans {g : Nat} {a b c : World} (h : St g a b) (k : St g b c) : St g a c := fun x vs t ht hb hx => k x vs t ht hb (h x vs t ht hb hx)
theorem St.kc {g : Nat} {a b c : World} (h : St g a b) (k : Kc b.heap.size b c) : St g a c := fun x vs t ht hb hx => k.block x (h x vs t ht hb hx).lt _ _ (h x vs t ht hb hx)
theorem St.set {g : Nat} {a b : World} (h : St g a b) (o : Nat) (v : Value) : St g a (b.setCell ⟨g, o, none⟩ v) := fun x vs t ht hb hx => (Below.heap_setCell _ _ _ _ hb).trans (h x vs t ht hb hx)
structure TlT (m : Nat) (A : Option Addr) (l : List Nd) (c : Nat) (u : Value) (W V : Wd) (rb B g tt rk : Nat) (tv : Value) (L : List VCl) (w0 : World) (w : World) : Prop where
  kp : Rk m l V B [] w0 w
  low : B <= w.heap.size
  rd : Rdr rb A l c u W V m w
  wk : Wk B g rb tt rk tv L w
  st : St g w0 w
theorem TlT.grow {m : Nat} {A : Option Addr} {l : List Nd} {c : Nat} {u : Value} {W V : Wd} {rb B g tt rk : Nat} {tv : Value} {L : List VCl} {w0 w w' : World} (h : TlT m A l c u W V rb B g tt rk tv L w0 w) (k : RkR m l V w w') : TlT m A l c u W V rb B g tt rk tv L w0 w' :=
  ⟨h.kp.call h.low k, Nat.le_trans h.low k.size, h.rd.rk k, h.wk.kc (k.kc ⟨_, h.rd.kept⟩), h.st.kc (k.kc ⟨_, h.rd.kept⟩)⟩
def TvR (m : Nat) (l : List Nd) (V : Wd) (H : Nat) (v : Vl) (u : Value) (w : World) : Prop := KeptX w m l V (fun _ => False) /\ ∃ x : VCl, u = .agg x.cells /\ x.v = v /\ VOk (fun b => H <= b) w x
theorem TvR.grow (m : Nat) (l : List Nd) (V : Wd) (H : Nat) (v : Vl) : ∀ u w w', TvR m l V H v u w -> RkR m l V w w' -> TvR m l V H v u w' := fun u w w' ⟨h1, x, h2, h3, h4⟩ k =>
  ⟨(k.map _ (fun g hg => hg.elim) h1).less fun g hg => .inl hg, x, h2, h3, h4.1, h4.2.kc (k.kc ⟨_, h1⟩)⟩
def Z1R (m : Nat) (l : List Nd) (V : Wd) (u : Value) (w : World) : Prop := KeptX w m l V (fun _ => False) /\ ∃ b, u = .slice (some ⟨b, 0, none⟩) 1 1 /\ Blk w b vcl0.cells 32
theorem Z1R.grow (m : Nat) (l : List Nd) (V : Wd) : ∀ u w w', Z1R m l V u w -> RkR m l V w w' -> Z1R m l V u w' := fun u w w' ⟨h1, b, h2, h3⟩ k =>
  ⟨(k.map _ (fun g hg => hg.elim) h1).less fun g hg => .inl hg, b, h2, (k.kc ⟨_, h1⟩).block _ h3.lt _ _ h3⟩
def TelP (m : Nat) (l : List Nd) (V : Wd) (B g rb a q : Nat) (v : Vl) (L : List VCl) (w0 : World) (e : Ending) (w : World) : Prop := ∃ tv x, e = .returned (.tuple #[]) /\ x.v = v /\ Wk B g rb a q tv (L ++ [x]) w /\ Rk m l V B [] w0 w
theorem v1_news {w : World} {b : Nat} {x : VCl} (h : Blk w b x.cells 32) : ∀ (j : Nat) (u : Value), (flatV [x])[j]? = some u -> w.cell? ((⟨b, 0, none⟩ : Addr).add j) = some u := fun j u hu => by
  have e : (flatV [x]) = x.cells.toList := by unfold flatV; simp [flatV]
  rw [e, Array.getElem?_toList] at hu
  have hadd : (⟨b, 0, none⟩ : Addr).add j = ⟨b, j, none⟩ := by unfold Addr.add; split <;> simp_all
  rw [hadd, h.cell]; exact hu
set_option maxRecDepth 100000 in
theorem wp_append_v1 {w : World} {o : Oper} {a : Act} {K : Act -> World -> Prop} {Q : Exit -> Act -> World -> Prop} (s x : Operand)
    (ho : o.op = .call { callee := .builtin .append, args := #[s, x], argTypes := #[30, 30] })
    (base : Nat) (v : Value) (l : List VCl) (hs : a.eval s = v) (hown : OwnVs w base v l)
    (b : Nat) (p : VCl) (hx : a.eval x = .slice (some ⟨b, 0, none⟩) 1 1) (hnew : Blk w b p.cells 32) (hlen : l.length < 1073741824) (hbase : base <= w.heap.size)
    (h : ∀ v' w', OwnVs w' base v' (l ++ [p]) -> w.grownBy w' v.ownBlock -> (v'.ownBlock = v.ownBlock \/ ∃ g', v'.ownBlock = some g' /\ w.heap.size <= g') -> K (a.put o.dst v') w') : o.wp Try.prog a w K Q := by
  obtain ⟨ib, hib, hz0, hz1, hz2⟩ := info_parts infoVal
  obtain ⟨v', w', hr, h2, h3, h4⟩ := run_append_where (P := Try.prog) w base 30 o.type 32 ib _ 5 64 Try.underlying30 hib hz0 hz1 hz2 rfl (by decide) v l.length (flatV l) hown ⟨b, 0, none⟩ 1 1 (flatV [p]) (by rw [flatV_length]; rfl) (v1_news hnew) (flatV_ones [p]) (by decide) (by unfold maxLen; omega) (by omega) hbase
  unfold Oper.wp execOp
  simp only [ho, resolve, invoke, builtin, Sem.run_bind, Sem.run_pure, Result.andThen_ok, List.map_toArray, List.map_cons, List.map_nil, hs, hx, hr]
  exact h v' w' (by unfold OwnVs; rw [List.length_append, flatV_append]; exact h2) h3 h4
def put5 (w : World) (g o : Nat) (x : VCl) : World := ((((w.setCell ⟨g, o, none⟩ (.int .i64 x.v.kind)).setCell ⟨g, o + 1, none⟩ (.int .u8 ((x.v.byte.toNat : Nat) : Int))).setCell ⟨g, o + 2, none⟩ (.string (bs x.v.text))).setCell ⟨g, o + 3, none⟩ (.int .i64 x.v.pick)).setCell ⟨g, o + 4, none⟩ (.slice x.B x.v.kids.len x.c)
theorem put5_other {w : World} {g o b : Nat} {x : VCl} (h : b ≠ g) : (put5 w g o x).heap[b]? = w.heap[b]? := by
  unfold put5
  rw [Below.heap_setCell _ _ _ _ h, Below.heap_setCell _ _ _ _ h, Below.heap_setCell _ _ _ _ h, Below.heap_setCell _ _ _ _ h, Below.heap_setCell _ _ _ _ h]
theorem put5_size {w : World} {g o : Nat} {x : VCl} : (put5 w g o x).heap.size = w.heap.size := by unfold put5; simp [World.setCell]
theorem set_five {P R : List Value} {n : Nat} (hP : P.length = n) (y0 y1 y2 y3 y4 x0 x1 x2 x3 x4 : Value) :
    (((((P ++ y0 :: y1 :: y2 :: y3 :: y4 :: R).set n x0).set (n + 1) x1).set (n + 2) x2).set (n + 3) x3).set (n + 4) x4 = P ++ x0 :: x1 :: x2 :: x3 :: x4 :: R := by
  subst hP
  simp [List.set_append]
theorem flatV_cells (x : VCl) : flatV [x] = [.int .i64 x.v.kind, .int .u8 ((x.v.byte.toNat : Nat) : Int), .string (bs x.v.text), .int .i64 x.v.pick, .slice x.B x.v.kids.len x.c] := by
  simp [flatV, VCl.cells, vlC]
theorem own_put5 {w : World} {B g cap : Nat} {L : List VCl} {y x : VCl} (h : OwnVs w B (.slice (some ⟨g, 0, none⟩) (L.length + 1) cap) (L ++ [y])) : OwnVs (put5 w g (L.length * 5) x) B (.slice (some ⟨g, 0, none⟩) (L.length + 1) cap) (L ++ [x]) := by
  obtain ⟨h0, ⟨hv, hn⟩ | ⟨g', cap', cur, hv, hb, hg, hc, hm, hs, ht⟩⟩ := h
  · rw [List.length_append] at hn; simp at hn
  · rw [List.length_append, List.length_singleton] at hv
    cases hv
    have hk : Blk w g cur 32 := hg
    have hk5 := ((((hk.setCell (L.length * 5) (.int .i64 x.v.kind)).setCell (L.length * 5 + 1) (.int .u8 ((x.v.byte.toNat : Nat) : Int))).setCell (L.length * 5 + 2) (.string (bs x.v.text))).setCell (L.length * 5 + 3) (.int .i64 x.v.pick)).setCell (L.length * 5 + 4) (.slice x.B x.v.kids.len x.c)
    refine ⟨by rw [flatV_length], .inr ⟨g, cap, _, by simp, hb, hk5, by simpa using hc, hm, by simpa using hs, ?_⟩⟩
    have hlen : (L ++ [x]).length = L.length + 1 := by simp
    have hlen2 : (L ++ [y]).length = L.length + 1 := by simp
    rw [hlen2, flatV_append, flatV_cells] at ht
    have hcur : cur.toList = flatV L ++ Value.int .i64 y.v.kind :: .int .u8 ((y.v.byte.toNat : Nat) : Int) :: .string (bs y.v.text) :: .int .i64 y.v.pick :: .slice y.B y.v.kids.len y.c :: cur.toList.drop ((L.length + 1) * 5) := by
      conv => lhs; rw [<- List.take_append_drop ((L.length + 1) * 5) cur.toList, ht]
      simp
    simp only [Array.toList_setIfInBounds]
    rw [hlen, hcur, set_five (flatV_length L), flatV_append, flatV_cells, List.take_append, List.take_of_length_le (by rw [flatV_length]; omega), flatV_length, show (L.length + 1) * 5 - L.length * 5 = 5 by omega]
    simp
structure TdQ (m : Nat) (l : List Nd) (V : Wd) (B g rb tt rk g2 cap : Nat) (L : List VCl) (x : VCl) (z : Value) (y : VCl) (w0 w : World) : Prop where
  kp : Rk m l V B [] w0 w
  blk : Blk w g #[.pointer (some ⟨rb, 0, none⟩), .int .i64 (tt : Int), .int .i64 (rk : Int), z] 102
  own : OwnVs w B (.slice (some ⟨g2, 0, none⟩) (L.length + 1) cap) (L ++ [y])
  kids : CKp (fun b => B <= b /\ g2 ≠ b /\ b ≠ g) w (L ++ [x])
  low : B <= g /\ B <= g2
  ne : g ≠ g2
  st : St g w0 w
theorem TdQ.at_ {m : Nat} {l : List Nd} {V : Wd} {B g rb tt rk g2 cap : Nat} {L : List VCl} {x : VCl} {z : Value} {y : VCl} {w0 w : World} (h : TdQ m l V B g rb tt rk g2 cap L x z y w0 w) : ∃ cur, Blk w g2 cur 32 /\ ∀ j, j < 5 -> w.cell? ⟨g2, L.length * 5 + j, none⟩ = y.cells[j]? := by
  obtain ⟨gt, cp, cur, hv, hb, hk, -, -, -, ht⟩ := h.own.blk (by simp)
  rw [List.length_append, List.length_singleton] at hv
  cases hv
  refine ⟨cur, hk, fun j hj => ?_⟩
  rw [hk.cell, <- Array.getElem?_toList]
  have h2 := flatV_get (L ++ [y]) L.length j (by simp) hj
  rw [<- ht, List.getElem?_take, if_pos (by simp; omega)] at h2
  rw [h2]; simp
theorem TdQ.put {m : Nat} {l : List Nd} {V : Wd} {B g rb tt rk g2 cap : Nat} {L : List VCl} {x : VCl} {z : Value} {y : VCl} {w0 w : World} (h : TdQ m l V B g rb tt rk g2 cap L x z y w0 w) : TdQ m l V B g rb tt rk g2 cap L x z x w0 (put5 w g2 (L.length * 5) x) := by
  obtain ⟨cur, hk, -⟩ := h.at_
  have hk1 := hk.setCell (L.length * 5) (.int .i64 x.v.kind)
  have hk2 := hk1.setCell (L.length * 5 + 1) (.int .u8 ((x.v.byte.toNat : Nat) : Int))
  have hk3 := hk2.setCell (L.length * 5 + 2) (.string (bs x.v.text))
  have hk4 := hk3.setCell (L.length * 5 + 3) (.int .i64 x.v.pick)
  refine ⟨((((h.kp.setT hk (by decide) h.low.2 _ _).setT hk1 (by decide) h.low.2 _ _).setT hk2 (by decide) h.low.2 _ _).setT hk3 (by decide) h.low.2 _ _).setT hk4 (by decide) h.low.2 _ _,
    (put5_other h.ne).trans h.blk, own_put5 h.own, fun k hk => ⟨(h.kids k hk).1, (h.kids k hk).2.blocks (by rw [put5_size]; exact Nat.le_refl _) fun b hb _ => put5_other fun e => hb.2.1 e.symm⟩, h.low, h.ne, fun b vs t ht hb hx => (put5_other fun e => ?_).trans (h.st b vs t ht hb hx)⟩
  subst e
  have h1 := h.st b vs t ht hb hx
  unfold Blk at h1 hk
  rw [h1] at hk
  have h8 := Option.some.inj hk
  injection h8 with _ h9
  exact ht h9
theorem TdQ.set {m : Nat} {l : List Nd} {V : Wd} {B g rb tt rk g2 cap : Nat} {L : List VCl} {x : VCl} {z : Value} {y : VCl} {w0 w : World} (h : TdQ m l V B g rb tt rk g2 cap L x z y w0 w) (z' : Value) : TdQ m l V B g rb tt rk g2 cap L x z' y w0 (w.setCell ⟨g, 3, none⟩ z') := by
  have hs : (w.setCell ⟨g, 3, none⟩ z').heap.size = w.heap.size := by simp [World.setCell]
  obtain ⟨h0, ⟨hv, hn⟩ | ⟨g', cap', cur, hv, hb, hg, hr⟩⟩ := h.own
  · rw [List.length_append] at hn; simp at hn
  · have hv2 := hv
    rw [List.length_append, List.length_singleton] at hv2
    cases hv2
    exact ⟨h.kp.setT h.blk (by decide) h.low.1 _ _, h.blk.setCell 3 z', ⟨h0, .inr ⟨g2, cap, cur, hv, hb, (Below.heap_setCell _ _ _ _ (fun e => h.ne e.symm)).trans hg, hr⟩⟩,
      fun k hk => ⟨(h.kids k hk).1, (h.kids k hk).2.blocks (by rw [hs]; exact Nat.le_refl _) fun b hb _ => Below.heap_setCell _ _ _ _ hb.2.2⟩, h.low, h.ne, h.st.set _ _⟩
theorem two_ends {T G : World -> Prop} {C : Prop} (main : (∀ w, T w -> G w) -> C) (fin : ∀ w, T w -> G w) : C := main fin
set_option maxHeartbeats 16000000 in
theorem ctell2_any {A : Option Addr} {l : List Nd} {c m : Nat} {V : Wd} {i : Nat} (hV : ValC A l c m V i) (rb : Nat) (u : Value) (W : Wd) (B g tt rk : Nat) (tv : Value) (L : List VCl) (a own : Nat) (v : Vl) (w : World)
    (hr : Rdr rb A l c u W V m w) (hW : W <+: V) (hB : B <= w.heap.size) (hwk : Wk B g rb tt rk tv L w) (ha : a <= tt) (ht : tt <= W.length) (hrk : rk <= 1) (ho : 0 < own) (ho2 : own <= 2) (hL : L.length <= 1000000) (hv : (EN l i (sgW W a tt))[rk % own]? = some v) :
    Calls Try.prog 74 #[.pointer (some ⟨g, 0, none⟩), .int .i64 (i : Int), .int .i64 (a : Int), .int .i64 (own : Int)] w (fun e w' => TelP m l V B g rb a (rk / own) v L w e w' /\ St g w w') := by
  have hR : ∀ w w', Below w.heap.size w w' -> RkR m l V w w' := fun w w' => RkR.of m l V w w'
  have HR := Lib.hid hR
  clear hR
  have HS0 : Hid (TlT m A l c u W V rb B g tt rk tv L w w) := ⟨.refl w B, hB, hr, hwk, St.refl g w⟩
  obtain ⟨at_, ct, rfl, hlc, -⟩ := hwk.own.row
  obtain ⟨md, hmd⟩ : ∃ md, rk % own = md := ⟨_, rfl⟩
  obtain ⟨dv, hdv⟩ : ∃ dv, rk / own = dv := ⟨_, rfl⟩
  have hmd1 : md <= 1 := by rw [<- hmd]; exact Nat.le_trans (Nat.mod_le _ _) hrk
  have t1 : (rk : Int).tmod (own : Int) = (md : Int) := by rw [Int.tmod_eq_emod_of_nonneg (by omega), <- hmd]; omega
  have t2 : (rk : Int).tdiv (own : Int) = (dv : Int) := by rw [Int.tdiv_eq_ediv_of_nonneg (by omega), <- hdv]; omega
  have d0 : ¬ (own : Int) = 0 := by omega
  have d3 : ¬ own = 0 := by omega
  have d1 : decide ((own : Int) = 0) = false := by simp; omega
  have d2 : ((own : Int) == 0) = false := by simp; omega
  have hoz : (own : Int) <= 2 := by omega
  have hrz : (rk : Int) <= 1 := by omega
  rw [hmd] at hv
  rw [hdv]
  have HC : Hid (∀ w', Rdr rb A l c u W V m w' -> Calls Try.prog 32 #[.pointer (some ⟨rb, 0, none⟩), .int .i64 (i : Int), .int .i64 (a : Int), .int .i64 (tt : Int), .int .i64 (md : Int)] w' (ValP m l V w' v)) := fun w' h => hV rb u W a tt md v w' h hW ha ht hmd1 hv
  clear hr hW hwk ha ht hv hV hmd hdv
  go_enter Try.func74, Try.ntmps74
  go_upto_region 0 with (fail)
  refine G.wp_region_stable_mid (R := (RkR m l V)) HR.out 23 #[true, true, true, true, true, true, true, true, true, true, true, true, true, true, true, true, true, true, true, true, true, true, true, false, false, false, false, false, false] (S := (TlT m A l c u W V rb B g tt rk (.slice at_ L.length ct) L w)) (hSt := fun _ _ h hr => h.grow hr) (plan := [[(0, none)], [(8, some 0)], [(9, some 1)], [(10, some 2)], [(0, none)], [(12, some 4)], [(13, some 5)], [(14, some 6)], [(1, none)], [(2, none)], [(0, none)], [(18, some 10)], [(19, some 11)], [(20, some 12)], [(0, none)], [(22, some 14)], [(23, some 15)], [(24, some 16)], [(3, none)], [(25, some 17), (26, some 18)], [(15, some 7), (16, some 8), (17, some 9), (21, some 13), (27, some 19)], [(11, some 3)], []]) rfl (by kernel_rfl) (by kernel_rfl) (by kernel_rfl) (by kernel_rfl) ?hS ?_
  rotate_left
  iterate 20 first
    | (refine G.chain_skip (by rfl) (by rfl) ?_)
    | (apply G.chain_want (by rfl)
       · intro act wx hS hr
         simp at hr
         have HC1 := Lib.hid (HC.out _ hS.rd)
         have t0 := hS.wk.blk.cell 0
         have t1 := hS.wk.blk.cell 1
         have t2 := hS.wk.blk.cell 2
         have t3 := hS.wk.blk.cell 3
         simp at t0 t1 t2 t3
         go_simp
         (try go_ints)
         first
           | exact G.Done.same HR.out
      )
  (refine G.chain_rel (TvR m l V w.heap.size v) (TvR.grow m l V w.heap.size v) (by rfl) ?_ ?_
   · intro act wx hS hr
     simp at hr
     have HC1 := Lib.hid (HC.out _ hS.rd)
     have t0 := hS.wk.blk.cell 0
     have t1 := hS.wk.blk.cell 1
     have t2 := hS.wk.blk.cell 2
     have t3 := hS.wk.blk.cell 3
     simp at t0 t1 t2 t3
     all_goals go_simp
     (refine HC1.out.mono ?_); rintro e w5 ⟨x5, rfl, hx5, hok5, hk5⟩; exact G.Done.rel hk5 ⟨(hk5.map _ (fun g hg => hg.elim) hS.rd.kept).less fun g hg => .inl hg, x5, rfl, hx5, hok5.1, hok5.2.mono fun b _ hb => Nat.le_trans hS.kp.size hb⟩
  )
  iterate 1 first
    | (refine G.chain_skip (by rfl) (by rfl) ?_)
    | (apply G.chain_want (by rfl)
       · intro act wx hS hr
         simp at hr
         have HC1 := Lib.hid (HC.out _ hS.rd)
         have t0 := hS.wk.blk.cell 0
         have t1 := hS.wk.blk.cell 1
         have t2 := hS.wk.blk.cell 2
         have t3 := hS.wk.blk.cell 3
         simp at t0 t1 t2 t3
         go_simp
         (try go_ints)
         first
           | exact G.Done.same HR.out
      )
  (refine G.chain_rel (Z1R m l V) (Z1R.grow m l V) (by rfl) ?_ ?_
   · intro act wx hS hr
     simp at hr
     have HC1 := Lib.hid (HC.out _ hS.rd)
     have t0 := hS.wk.blk.cell 0
     have t1 := hS.wk.blk.cell 1
     have t2 := hS.wk.blk.cell 2
     have t3 := hS.wk.blk.cell 3
     simp at t0 t1 t2 t3
     all_goals go_simp
     exact G.Done.rel (HR.out _ _ ((Below.refl _ _).alloc (Nat.le_refl _) _)) ⟨((HR.out _ _ ((Below.refl _ _).alloc (Nat.le_refl _) _)).map _ (fun g hg => hg.elim) hS.rd.kept).less fun g hg => .inl hg, _, rfl, Blk.new wx _ _⟩
  )
  show ∀ w', _ -> _
  intro w9 hw9
  simp [Act.put]
  case hS => exact HS0.out
  intro v1 hv1 v2 hv2
  obtain ⟨-, x5, rfl, hx5, hok5⟩ := hv1
  obtain ⟨-, b7, rfl, hb7⟩ := hv2
  refine wpAny_ready (rs := [23]) (by kernel_rfl) (by simp) ?_
  refine AllReady.cons rfl (fun K hK => ?_) AllReady.nil
  refine wp_append_v1 (.tmp 11) (.tmp 30) rfl B _ L (by simp [Act.eval]) hw9.wk.own b7 vcl0 (by simp [Act.eval]) hb7 (by omega) hw9.low ?_
  intro v' w' h1 h2 h3
  refine hK _ _ ?_; clear hK K
  have hrk' : Rk m l V B [] w w' := hw9.kp.growT hw9.low hw9.wk.own (by decide) h2
  obtain ⟨g2, cap2, cur2, hv2, hb2, hblk2, hlc2, -⟩ := h1.blk (by simp)
  rw [List.length_append, List.length_singleton] at hv2 hlc2
  subst hv2
  have HL2 : Hid (L.length + 1 <= cap2) := hlc2
  have hiz : ((L.length : Nat) : Int) < (L.length : Int) + 1 := by omega
  have hin0 : ¬ ((L.length : Nat) : Int) < 0 := by omega
  have HW9 := Lib.hid hw9
  have H1 := Lib.hid h1
  have H2 := Lib.hid h2
  have H3 := Lib.hid h3
  have HRK := Lib.hid hrk'
  have HX5 := Lib.hid hx5
  have HOK := Lib.hid hok5
  have HB2 := Lib.hid hb2
  have HBK := Lib.hid hblk2
  have HLC := Lib.hid hlc
  have hq : TdQ m l V B g rb tt rk g2 cap2 L x5 (.slice at_ L.length ct) vcl0 w w' := by
    have hnb : ∀ b, b < w9.heap.size -> (Value.slice at_ L.length ct).ownBlock ≠ some b -> w'.heap[b]? = w9.heap[b]? := fun b hb hn => h2.block b hb fun e => hn e.symm
    have hgt : (Value.slice at_ L.length ct).ownBlock ≠ some g := fun e => by
      obtain ⟨-, ⟨hv, -⟩ | ⟨gt, cp, cu, hv, -, hgg, -⟩⟩ := hw9.wk.own
      · rw [hv] at e; cases e
      · rw [hv] at e
        have e : gt = g := Option.some.inj e
        subst e
        have hk := hw9.wk.blk
        unfold Blk at hk
        rw [hgg] at hk
        have h8 := Option.some.inj hk
        injection h8 with _ h9
        exact absurd h9 (by decide)
    have hg2 : g2 = g -> False := fun e => by
      rcases h3 with h3 | ⟨g', h3, h4⟩
      · exact hgt (by rw [<- h3, <- e]; rfl)
      · have : g2 = g' := Option.some.inj h3
        have := hw9.wk.blk.lt
        omega
    have hkeep : ∀ b, B <= b -> (Value.slice at_ L.length ct).ownBlock ≠ some b -> b < w9.heap.size -> g2 ≠ b := fun b _ hn hlt e => by
      rcases h3 with h3 | ⟨g', h3, h4⟩
      · exact hn (by rw [<- h3, <- e]; rfl)
      · have : g2 = g' := Option.some.inj h3
        omega
    have hnew5 : ∀ b, w.heap.size <= b -> (Value.slice at_ L.length ct).ownBlock ≠ some b := fun b hb e => by
      obtain ⟨-, ⟨hv, -⟩ | ⟨gt, cp, cu, hv, -, hgg, -⟩⟩ := HS0.out.wk.own
      · rw [hv] at e; cases e
      · rw [hv] at e
        have e : gt = b := Option.some.inj e
        have := Blk.lt (show Blk w gt cu 32 from hgg)
        omega
    have hglt := HS0.out.wk.blk.lt
    refine ⟨hrk', (hnb g hw9.wk.blk.lt hgt).trans hw9.wk.blk, h1, fun y hy => ?_, ⟨hw9.wk.low, hb2⟩, fun e => hg2 e.symm, fun b vs t ht hb hx => ?stq⟩
    case stq =>
      have h1 := hw9.st b vs t ht hb hx
      refine (hnb b h1.lt fun e => ?_).trans h1
      exact own_typedU hw9.wk.own h1 (by exact fun e => ht e.symm) b e rfl
    have hfin : ∀ {s : Vs} {X : Option Addr} {i : Nat}, VRp (fun b => (B <= b /\ (Value.slice at_ L.length ct).ownBlock ≠ some b /\ b ≠ g) /\ g2 ≠ b) w9 X i s -> VRp (fun b => B <= b /\ g2 ≠ b /\ b ≠ g) w' X i s := fun k => (k.blocks h2.size fun b hb hlt => hnb b hlt hb.1.2.1).mono fun b _ hb => ⟨hb.1.1, hb.2, hb.1.2.2⟩
    rcases List.mem_append.1 hy with hy | hy
    · obtain ⟨k1, k2⟩ := hw9.wk.kids y hy
      exact ⟨k1, hfin (k2.mono fun b hlt hp => ⟨hp, hkeep b hp.1 hp.2.1 hlt⟩)⟩
    · rw [List.mem_singleton.1 hy]
      exact ⟨hok5.1, hfin (hok5.2.mono fun b hlt hp => ⟨⟨by omega, hnew5 b hp, by omega⟩, hkeep b (by omega) (hnew5 b hp) hlt⟩)⟩
  have HQ := Lib.hid hq
  obtain ⟨curq, hcq, hcell⟩ := hq.at_
  have q0 : w'.cell? ⟨g2, L.length * 5, none⟩ = some (.int .i64 0) := hcell 0 (by decide)
  have q1 : w'.cell? ⟨g2, L.length * 5 + 1, none⟩ = some (.int .u8 0) := hcell 1 (by decide)
  have q2 : w'.cell? ⟨g2, L.length * 5 + 2, none⟩ = some (.string ⟨#[]⟩) := hcell 2 (by decide)
  have q3 : w'.cell? ⟨g2, L.length * 5 + 3, none⟩ = some (.int .i64 0) := hcell 3 (by decide)
  have q4 : w'.cell? ⟨g2, L.length * 5 + 4, none⟩ = some (.slice none 0 0) := hcell 4 (by decide)
  have f0 := hcq.frozen (L.length * 5)
  have f1 := hcq.frozen (L.length * 5 + 1)
  have f2 := hcq.frozen (L.length * 5 + 2)
  have f3 := hcq.frozen (L.length * 5 + 3)
  have f4 := hcq.frozen (L.length * 5 + 4)
  have s3 := hq.blk.cell 3
  have g3 := hq.blk.frozen 3
  simp at s3
  clear hq hcq hcell
  clear h1 h2 h3 hrk' hx5 hok5 hb2 hblk2 hlc2 hw9 hlc hb7
  refine wpAny_take (i := 24) (v := ?_) rfl (by kernel_rfl) (by kernel_rfl) (by kernel_rfl) (fun _ _ _ h => h) (Or.inl ⟨by rfl, ?_⟩) ?_
  rotate_left
  · (intro w; go_simp; try with_reducible rfl)
  refine wpAny_take (i := 26) (v := ?_) rfl (by kernel_rfl) (by kernel_rfl) (by kernel_rfl) (fun _ _ _ h => h) (Or.inl ⟨by rfl, ?_⟩) ?_
  rotate_left
  · (intro w; go_simp; try with_reducible rfl)
  refine wpAny_take (i := 27) (v := ?_) rfl (by kernel_rfl) (by kernel_rfl) (by kernel_rfl) (fun _ _ _ h => h) (Or.inl ⟨by rfl, ?_⟩) ?_
  rotate_left
  · (intro w; go_simp; try with_reducible rfl)
  obtain ⟨⟨xk, xb, xt, xp, xs⟩, xB, xc⟩ := x5
  refine two_ends (T := TdQ m l V B g rb tt rk g2 cap2 L ⟨⟨xk, xb, xt, xp, xs⟩, xB, xc⟩ (.slice (some ⟨g2, 0, none⟩) (L.length + 1) cap2) ⟨⟨xk, xb, xt, xp, xs⟩, xB, xc⟩ w) (G := ?G) (fun HFIN => ?main) ?fin
  case main =>
   refine wpAny_ready (rs := [25, 28]) (by kernel_rfl) (by simp) ?_
   refine AllReady.cons rfl (fun K hK => ?_) (AllReady.cons rfl (fun K hK => ?_) AllReady.nil)
   · simp only [VCl.cells, vlC]
     go_simp
     refine hK _ _ ?_; clear hK K
     have HQ2 := Lib.hid HQ.out.put
     unfold put5 at HQ2
     simp only at HQ2
     generalize ((((w'.setCell ⟨g2, L.length * 5, none⟩ (.int .i64 xk)).setCell ⟨g2, L.length * 5 + 1, none⟩ (.int .u8 ((xb.toNat : Nat) : Int))).setCell ⟨g2, L.length * 5 + 2, none⟩ (.string (bs xt))).setCell ⟨g2, L.length * 5 + 3, none⟩ (.int .i64 xp)).setCell ⟨g2, L.length * 5 + 4, none⟩ (.slice xB xs.len xc) = w7 at HQ2 ⊢
     have s3 := HQ2.out.blk.cell 3
     have g3 := HQ2.out.blk.frozen 3
     simp at s3
     refine wpAny_ready (rs := [28]) (by kernel_rfl) (by simp) ?_
     refine AllReady.cons rfl (fun K hK => ?_) AllReady.nil
     go_simp
     refine hK _ _ ?_; clear hK K
     have HQ3 := Lib.hid (HQ2.out.set (.slice (some ⟨g2, 0, none⟩) (L.length + 1) cap2))
     generalize w7.setCell ⟨g, 3, none⟩ (.slice (some ⟨g2, 0, none⟩) (L.length + 1) cap2) = w8 at HQ3 ⊢
     refine wpAny_done (by kernel_rfl) ?_ _
     exact HFIN _ HQ3.out
   · go_simp
     refine hK _ _ ?_; clear hK K
     have HQ2 := Lib.hid (HQ.out.set (.slice (some ⟨g2, 0, none⟩) (L.length + 1) cap2))
     generalize w'.setCell ⟨g, 3, none⟩ (.slice (some ⟨g2, 0, none⟩) (L.length + 1) cap2) = w7 at HQ2 ⊢
     obtain ⟨curq, hcq, hcell⟩ := HQ2.out.at_
     have q0 : w7.cell? ⟨g2, L.length * 5, none⟩ = some (.int .i64 0) := hcell 0 (by decide)
     have q1 : w7.cell? ⟨g2, L.length * 5 + 1, none⟩ = some (.int .u8 0) := hcell 1 (by decide)
     have q2 : w7.cell? ⟨g2, L.length * 5 + 2, none⟩ = some (.string ⟨#[]⟩) := hcell 2 (by decide)
     have q3 : w7.cell? ⟨g2, L.length * 5 + 3, none⟩ = some (.int .i64 0) := hcell 3 (by decide)
     have q4 : w7.cell? ⟨g2, L.length * 5 + 4, none⟩ = some (.slice none 0 0) := hcell 4 (by decide)
     have f0 := hcq.frozen (L.length * 5)
     have f1 := hcq.frozen (L.length * 5 + 1)
     have f2 := hcq.frozen (L.length * 5 + 2)
     have f3 := hcq.frozen (L.length * 5 + 3)
     have f4 := hcq.frozen (L.length * 5 + 4)
     clear hcq hcell
     refine wpAny_ready (rs := [25]) (by kernel_rfl) (by simp) ?_
     refine AllReady.cons rfl (fun K hK => ?_) AllReady.nil
     simp only [VCl.cells, vlC]
     go_simp
     refine hK _ _ ?_; clear hK K
     have HQ3 := Lib.hid HQ2.out.put
     unfold put5 at HQ3
     simp only at HQ3
     generalize ((((w7.setCell ⟨g2, L.length * 5, none⟩ (.int .i64 xk)).setCell ⟨g2, L.length * 5 + 1, none⟩ (.int .u8 ((xb.toNat : Nat) : Int))).setCell ⟨g2, L.length * 5 + 2, none⟩ (.string (bs xt))).setCell ⟨g2, L.length * 5 + 3, none⟩ (.int .i64 xp)).setCell ⟨g2, L.length * 5 + 4, none⟩ (.slice xB xs.len xc) = w8 at HQ3 ⊢
     refine wpAny_done (by kernel_rfl) ?_ _
     exact HFIN _ HQ3.out
  case fin =>
   intro w8 hq3
   have HQ3 := Lib.hid hq3
   have hx5 := HX5.out
   have hdv1 : (dv : Int) <= 1 := by rw [<- t2, Int.tdiv_eq_ediv_of_nonneg (by omega)]; exact Int.le_trans (Int.ediv_le_self _ (by omega)) hrz
   have hdw : wrap64 (dv : Int) = (dv : Int) := by unfold wrap64; omega
   have t0 := HQ3.out.blk.cell 0
   have u1 := HQ3.out.blk.cell 1
   have u2 := HQ3.out.blk.cell 2
   have e1 := HQ3.out.blk.frozen 1
   have e2 := HQ3.out.blk.frozen 2
   simp at t0 u1 u2
   have HP : Hid (∀ wx, Below (w8.heap.size) ((w8.setCell ⟨g, 1, none⟩ (.int .i64 (a : Int))).setCell ⟨g, 2, none⟩ (.int .i64 (dv : Int))) wx -> TelP m l V B g rb a dv v L w (.returned (.tuple #[])) wx /\ St g w wx) := by
    have hk1 := HQ3.out.blk.setCell 1 (.int .i64 (a : Int))
    have hk2 := hk1.setCell 2 (.int .i64 (dv : Int))
    have hs : ((w8.setCell ⟨g, 1, none⟩ (.int .i64 (a : Int))).setCell ⟨g, 2, none⟩ (.int .i64 (dv : Int))).heap.size = w8.heap.size := by simp [World.setCell]
    have hrk := (HQ3.out.kp.setT HQ3.out.blk (by decide) HQ3.out.low.1 1 (.int .i64 (a : Int))).setT hk1 (by decide) HQ3.out.low.1 2 (.int .i64 (dv : Int))
    have hoth : ∀ b, b ≠ g -> ((w8.setCell ⟨g, 1, none⟩ (.int .i64 (a : Int))).setCell ⟨g, 2, none⟩ (.int .i64 (dv : Int))).heap[b]? = w8.heap[b]? := fun b hb => (Below.heap_setCell _ _ _ _ hb).trans (Below.heap_setCell _ _ _ _ hb)
    have hwk : Wk B g rb a dv (.slice (some ⟨g2, 0, none⟩) (L.length + 1) cap2) (L ++ [⟨⟨xk, xb, xt, xp, xs⟩, xB, xc⟩]) ((w8.setCell ⟨g, 1, none⟩ (.int .i64 (a : Int))).setCell ⟨g, 2, none⟩ (.int .i64 (dv : Int))) := by
      refine ⟨by simpa using hk2, HQ3.out.low.1, ?_, fun y hy => ⟨(HQ3.out.kids y hy).1, ((HQ3.out.kids y hy).2.blocks (by rw [hs]; exact Nat.le_refl _) fun b hb _ => hoth b hb.2.2).mono fun b _ hb => ⟨hb.1, fun e => hb.2.1 (Option.some.inj e), hb.2.2⟩⟩⟩
      obtain ⟨h0, ⟨hv, hn⟩ | ⟨g', cap', cur, hv, hb, hg, hr⟩⟩ := HQ3.out.own
      · rw [List.length_append] at hn; simp at hn
      · have hv2 := hv
        rw [List.length_append, List.length_singleton] at hv2
        cases hv2
        exact ⟨h0, .inr ⟨g2, cap2, cur, hv, hb, (hoth g2 (fun e => HQ3.out.ne e.symm)).trans hg, hr⟩⟩
    have hlow : B <= w8.heap.size := Nat.le_trans HQ3.out.low.1 (Nat.le_of_lt HQ3.out.blk.lt)
    have hst := (HQ3.out.st.set 1 (.int .i64 (a : Int))).set 2 (.int .i64 (dv : Int))
    exact fun wx hb => ⟨⟨_, _, rfl, hx5, hwk.later (hb.mono (by rw [hs]; exact Nat.le_refl _)), hrk.later (by rw [hs]; exact hlow) (hb.mono (by rw [hs]; exact Nat.le_refl _))⟩, fun b vs t ht hg hx => (hst b vs t ht hg hx).later (hb.mono (by rw [hs]; exact Nat.le_refl _))⟩
   clear hq3 hx5 HX5 HS0 HC HR HQ HW9 H1 H2 H3 HRK HBK HOK q0 q1 q2 q3 q4 f0 f1 f2 f3 f4 s3 g3 HQ3
   go_upto_region 1 with (fail)
   go_region
   go_end0
   exact HP.out _ ((Below.refl _ _).drew)
theorem ctell_any {A : Option Addr} {l : List Nd} {c m : Nat} {V : Wd} {i : Nat} (hV : ValC A l c m V i) (rb : Nat) (u : Value) (W : Wd) (B g tt rk : Nat) (tv : Value) (L : List VCl) (a own : Nat) (v : Vl) (w : World)
    (hr : Rdr rb A l c u W V m w) (hW : W <+: V) (hB : B <= w.heap.size) (hwk : Wk B g rb tt rk tv L w) (ha : a <= tt) (ht : tt <= W.length) (hrk : rk <= 1) (ho : 0 < own) (ho2 : own <= 2) (hL : L.length <= 1000000) (hv : (EN l i (sgW W a tt))[rk % own]? = some v) :
    Calls Try.prog 74 #[.pointer (some ⟨g, 0, none⟩), .int .i64 (i : Int), .int .i64 (a : Int), .int .i64 (own : Int)] w (TelP m l V B g rb a (rk / own) v L w) :=
  (ctell2_any hV rb u W B g tt rk tv L a own v w hr hW hB hwk ha ht hrk ho ho2 hL hv).mono fun e w' h => h.1
theorem plF_snoc {F : Nat -> Nat} {M : List (Nat × Nat)} {p : Nat × Nat} : ∀ {Z : Nat}, plF Z F = M ++ [p] -> p.1 < Z /\ F p.1 = p.2 /\ p.2 ≠ 0 /\ M = plF p.1 F /\ ∀ r, p.1 < r -> r < Z -> F r = 0
  | 0, h => by
    have : (plF 0 F).length = (M ++ [p]).length := by rw [h]
    rw [show (plF 0 F).length = 0 from rfl] at this; simp at this
  | Z + 1, h => by
    rw [plF_succ] at h
    by_cases h0 : F Z = 0
    · rw [if_pos h0, List.append_nil] at h
      obtain ⟨h1, h2, h3, h4, h5⟩ := plF_snoc h
      refine ⟨by omega, h2, h3, h4, fun r hr1 hr2 => ?_⟩
      by_cases e : r = Z
      · rw [e]; exact h0
      · exact h5 r hr1 (by omega)
    · rw [if_neg h0] at h
      obtain ⟨h1, h2⟩ := List.append_inj' h rfl
      have h2 := List.singleton_inj.1 h2
      subst h2
      exact ⟨Nat.lt_succ_self _, rfl, h0, h1.symm, fun r hr1 hr2 => by simp only at hr1; omega⟩
theorem fnd_take {F : Nat -> Nat} {n tt k : Nat} (h : Fnd (plF n F) tt k) (ht : tt <= n) : (plF n F).take k = plF tt F := by
  refine plF_of ((plF_rise (F := F) (n := n)).sublist (List.take_sublist _ _)) fun p => ⟨fun hp => ?_, fun ⟨h1, h2, h3⟩ => ?_⟩
  · obtain ⟨j, hj, rfl⟩ := List.getElem_of_mem hp
    rw [List.length_take] at hj
    rw [List.getElem_take]
    have hl := h.lo j (by omega)
    rw [List.getD_eq_getElem?_getD, List.getElem?_eq_getElem (by omega)] at hl
    have hm := mem_plF.1 (List.getElem_mem (l := plF n F) (n := j) (by omega))
    exact ⟨hl, hm.2.1, hm.2.2⟩
  · obtain ⟨j, hj, rfl⟩ := List.getElem_of_mem (mem_plF.2 ⟨by omega, h2, h3⟩ : p ∈ plF n F)
    by_cases hjk : j < k
    · rw [List.mem_iff_getElem]
      exact ⟨j, by rw [List.length_take]; omega, by rw [List.getElem_take]⟩
    · have hh := h.hi j (by omega) hj
      rw [List.getD_eq_getElem?_getD, List.getElem?_eq_getElem hj] at hh
      exact absurd h1 (by simp only [Option.getD_some] at hh; omega)
theorem plF_last {F : Nat -> Nat} {n Z k : Nat} (h : (plF n F).take (k + 1) = plF Z F) (hk : k < (plF n F).length) : ∃ q x, (plF n F).getD k (0, 0) = (q, x) /\ q < Z /\ F q = x /\ x ≠ 0 /\ (plF n F).take k = plF q F /\ ∀ r, q < r -> r < Z -> F r = 0 := by
  have e : (plF n F).take (k + 1) = (plF n F).take k ++ [(plF n F).getD k (0, 0)] := by
    rw [List.take_add_one, List.getD_eq_getElem?_getD, List.getElem?_eq_getElem hk]; rfl
  rw [e] at h
  obtain ⟨h1, h2, h3, h4, h5⟩ := plF_snoc h.symm
  exact ⟨_, _, rfl, h1, h2, h3, h4, h5⟩
theorem kid_take {C c x own rk : Nat} (hx : x = min 2 C) (ho : own = min 2 c) (hr : rk <= 1) (h : rk < x * own) : 0 < own /\ own <= 2 /\ rk = rk / own * c + rk % own /\ rk % own < c /\ rk / own < C /\ rk / own <= 1 := by
  have hx2 : x <= 2 := by omega
  have ho2 : own <= 2 := by omega
  have h0 : own = 0 \/ own = 1 \/ own = 2 := by omega
  have h1 : x = 0 \/ x = 1 \/ x = 2 := by omega
  have h2 : rk = 0 \/ rk = 1 := by omega
  rcases h0 with h0 | h0 | h0 <;> rcases h1 with h1 | h1 | h1 <;> rcases h2 with h2 | h2 <;> rw [h0, h1, h2] at h <;> rw [h0, h2] <;> simp at h ⊢
  all_goals omega
theorem kid_left {C c x own rk : Nat} (hx : x = min 2 C) (hx0 : x ≠ 0) (ho : own = min 2 c) (hr : rk <= 1) (h : ¬ rk < x * own) : x * own = C * c := by
  have h0 : own = 0 \/ own = 1 \/ own = 2 := by omega
  have h1 : x = 1 \/ x = 2 := by omega
  rcases h0 with h0 | h0 | h0 <;> rcases h1 with h1 | h1 <;> rw [h0, h1] at h ⊢
  all_goals first
    | (exfalso; omega)
    | (have hc : c = 0 := by omega
       subst hc; simp)
    | (have hc : c = 1 := by omega
       have hC : C = 1 := by omega
       subst hc; subst hC; rfl)
theorem sg_split {f : Nat -> Nat} {q : Nat} : ∀ {n : Nat}, q < n -> (∀ r, q < r -> r < n -> f r = 0) -> sg n f = sg q f + f q
  | 0, h, _ => by omega
  | n + 1, h, h0 => by
    rw [sg_succ]
    by_cases e : q = n
    · rw [e]
    · rw [sg_split (by omega) fun r h1 h2 => h0 r h1 (by omega), h0 n (by omega) (by omega)]; omega
theorem upS_eq {f : Nat -> Nat} {q : Nat} : ∀ {n : Nat}, q < n -> sg q f + f q + upS q n f = sg n f
  | 0, h => by omega
  | n + 1, h => by
    rw [sg_succ]
    unfold upS
    by_cases e : q = n
    · subst e
      rw [show q + 1 - q - 1 = 0 by omega, sg_zero]; omega
    · have := upS_eq (f := f) (q := q) (n := n) (by omega)
      unfold upS at this
      rw [show n + 1 - q - 1 = (n - q - 1) + 1 by omega, sg_succ, show q + 1 + (n - q - 1) = n by omega]; omega
abbrev kdf (l : List Nd) (i : Nat) (W : Wd) (tt : Nat) (C : Nat -> Nat) (p : Nat) : Nat := C p * cV l i W p tt
def WkdP (m : Nat) (l : List Nd) (V : Wd) (i : Nat) (W : Wd) (B g rb tt rk : Nat) (C : Nat -> Nat) (L : List VCl) (w0 : World) (e : Ending) (w : World) : Prop :=
  ∃ q r s v, q < tt /\ r <= 1 /\ r < C q /\ rk = upS q tt (kdf l i W tt C) + (r * cV l i W q tt + s) /\ (EN l i (sgW W q tt))[s]? = some v /\ TelP m l V B g rb q r v L w0 e w
theorem wkd_step {l : List Nd} {i : Nat} {W : Wd} {tt rk0 rk Z n k : Nat} {C : Nat -> Nat} (hF : Form l) (hi : i < l.length) (hk : k < (plF n fun p => min 2 (C p)).length) (h : (plF n fun p => min 2 (C p)).take (k + 1) = plF Z fun p => min 2 (C p)) (hZ : Z <= tt) (hr : rk <= 1) (hsum : rk0 + sg Z (kdf l i W tt C) = rk + sg tt (kdf l i W tt C)) :
    ∃ q x, (plF n fun p => min 2 (C p)).getD k (0, 0) = (q, x) /\ q < tt /\ x <= 2 /\ x ≠ 0 /\ rowV l i W q tt <= 2 /\
      (rk < x * rowV l i W q tt -> 0 < rowV l i W q tt /\ ∃ v, rk / rowV l i W q tt <= 1 /\ rk / rowV l i W q tt < C q /\ rk0 = upS q tt (kdf l i W tt C) + (rk / rowV l i W q tt * cV l i W q tt + rk % rowV l i W q tt) /\ (EN l i (sgW W q tt))[rk % rowV l i W q tt]? = some v) /\
      (¬ rk < x * rowV l i W q tt -> (plF n fun p => min 2 (C p)).take k = plF q (fun p => min 2 (C p)) /\ rk0 + sg q (kdf l i W tt C) = (rk - x * rowV l i W q tt) + sg tt (kdf l i W tt C)) := by
  obtain ⟨q, x, h1, h2, h3, h4, h5, h6⟩ := plF_last h hk
  have hz : ∀ r, q < r -> r < Z -> kdf l i W tt C r = 0 := fun r hr1 hr2 => by
    have : C r = 0 := by have := h6 r hr1 hr2; omega
    unfold kdf; rw [this, Nat.zero_mul]
  have hs := sg_split h2 hz
  have hu := upS_eq (f := kdf l i W tt C) (show q < tt by omega)
  have hc := rowV_cV (l := l) (i := i) (W := W) (a := q) (b := tt)
  have hle : rowV l i W q tt <= 2 := rowV_le
  refine ⟨q, x, h1, by omega, by rw [<- h3]; omega, h4, hle, fun hlt => ?_, fun hge => ?_⟩
  · obtain ⟨k1, k2, k3, k4, k5, k6⟩ := kid_take h3.symm hc hr hlt
    have hlen : (EN l i (sgW W q tt)).length = cV l i W q tt := by
      rw [EN_length hF hi]; unfold cV; rw [if_pos (by omega)]
    refine ⟨k1, (EN l i (sgW W q tt))[rk % rowV l i W q tt]'(by omega), k6, k5, by omega, List.getElem?_eq_getElem _⟩
  · have hk2 := kid_left h3.symm h4 hc hr hge
    have hk3 : kdf l i W tt C q = x * rowV l i W q tt := hk2.symm
    exact ⟨h5, by omega⟩
theorem Wk.rank {B g rb tt rk : Nat} {tv : Value} {L : List VCl} {w : World} (h : Wk B g rb tt rk tv L w) (r : Nat) : Wk B g rb tt r tv L (w.setCell ⟨g, 2, none⟩ (.int .i64 (r : Int))) := by
  have hs : (w.setCell ⟨g, 2, none⟩ (.int .i64 (r : Int))).heap.size = w.heap.size := by simp [World.setCell]
  refine ⟨by simpa using h.blk.setCell 2 (.int .i64 (r : Int)), h.low, ?_, fun y hy => ⟨(h.kids y hy).1, (h.kids y hy).2.blocks (by rw [hs]; exact Nat.le_refl _) fun b hb _ => Below.heap_setCell _ _ _ _ hb.2.2⟩⟩
  obtain ⟨h0, h1 | ⟨gt, cap', cur, hv, hb, hg, hr⟩⟩ := h.own
  · exact ⟨h0, .inl h1⟩
  · have hne : gt ≠ g := fun e => by
      subst e
      have hk := h.blk
      unfold Blk at hk
      rw [hg] at hk
      have h8 := Option.some.inj hk
      injection h8 with _ h9
      exact absurd h9 (by decide)
    exact ⟨h0, .inr ⟨gt, cap', cur, hv, hb, (Below.heap_setCell _ _ _ _ hne).trans hg, hr⟩⟩
structure WkL (m : Nat) (A : Option Addr) (l : List Nd) (c : Nat) (u : Value) (W V : Wd) (rb B g tt rk : Nat) (tv : Value) (L : List VCl) (Al : Option Addr) (cl : Nat) (S : List (Nat × Nat)) (w0 : World) (w : World) : Prop where
  t : TlS m A l c u W V rb B g tt rk tv L w0 w
  row : RcRow w Al S
structure WkT (m : Nat) (A : Option Addr) (l : List Nd) (c : Nat) (u : Value) (W V : Wd) (rb B g tt rk : Nat) (tv : Value) (L : List VCl) (Al : Option Addr) (cl : Nat) (S : List (Nat × Nat)) (w0 : World) (w : World) : Prop where
  t : TlT m A l c u W V rb B g tt rk tv L w0 w
  row : RcRow w Al S
theorem WkT.later {m : Nat} {A : Option Addr} {l : List Nd} {c : Nat} {u : Value} {W V : Wd} {rb B g tt rk : Nat} {tv : Value} {L : List VCl} {Al : Option Addr} {cl : Nat} {S : List (Nat × Nat)} {w0 w w' : World} (h : WkT m A l c u W V rb B g tt rk tv L Al cl S w0 w) (hb : Below w.heap.size w w') : WkT m A l c u W V rb B g tt rk tv L Al cl S w0 w' := ⟨h.t.grow (.of_below hb), h.row.later hb⟩
def WkI (m : Nat) (A : Option Addr) (l : List Nd) (c : Nat) (u : Value) (W V : Wd) (i rb B g tt rk0 : Nat) (C : Nat -> Nat) (tv : Value) (L : List VCl) (Al : Option Addr) (cl : Nat) (w0 : World) (k : Value) (w : World) : Prop :=
  ∃ (kk rk Z : Nat), k = .int .i64 ((kk : Int) - 1) /\ kk <= (plF (W.length + 1) fun p => min 2 (C p)).length /\ rk <= 1 /\ Z <= tt /\ (plF (W.length + 1) fun p => min 2 (C p)).take kk = plF Z (fun p => min 2 (C p)) /\ rk0 + sg Z (kdf l i W tt C) = rk + sg tt (kdf l i W tt C) /\ WkT m A l c u W V rb B g tt rk tv L Al cl (plF (W.length + 1) fun p => min 2 (C p)) w0 w
set_option maxHeartbeats 16000000 in
theorem cwkid2_any {A : Option Addr} {l : List Nd} {c m : Nat} {V : Wd} {i : Nat} (hF : Form l) (hi : i < l.length) (hE : EndsC A l c m V i) (hV : ValC A l c m V i) (rb : Nat) (u : Value) (W : Wd) (B g tt rk : Nat) (tv : Value) (L : List VCl) (C : Nat -> Nat) (sv : Value) (wb w : World)
    (hb0 : Rdr rb A l c u W V m wb) (hbB : wb.heap.size <= B) (hk0 : Rk m l V B [] wb w) (hW : W <+: V) (hn : V.length <= 900) (hB : B <= w.heap.size) (hwk : Wk B g rb tt rk tv L w) (ht : tt <= W.length) (hrk : rk <= 1) (hL : L.length <= 1000000) (hs : IsR w sv (plF (W.length + 1) fun p => min 2 (C p))) (htot : rk < sg tt (kdf l i W tt C)) :
    Calls Try.prog 62 #[.pointer (some ⟨g, 0, none⟩), .int .i64 (i : Int), sv] w (fun e w' => WkdP m l V i W B g rb tt rk C L w e w' /\ St g w w') := by
  have hWn : W.length <= 900 := by obtain ⟨t, rfl⟩ := hW; simp at hn; omega
  have hr := hb0.at_ hbB hk0
  have HRD : Hid (∀ w', Rk m l V B [] w w' -> Rdr rb A l c u W V m w') := fun w' k => hb0.at_ hbB (hk0.then k)
  obtain ⟨Al, cl, rfl, hlc, hrow⟩ := hs
  have hpl := plF_length (F := fun p => min 2 (C p)) (n := W.length + 1)
  have HC := Lib.hid (cfind_any (plF (W.length + 1) fun p => min 2 (C p)) Al cl tt plF_rise (by omega) (fun p hp => by have := (mem_plF.1 hp).1; omega) (by omega) w hrow)
  have HS0 : Hid (WkT m A l c u W V rb B g tt rk tv L Al cl (plF (W.length + 1) fun p => min 2 (C p)) w w) := ⟨⟨.refl w B, hB, hr, hwk, St.refl g w⟩, hrow⟩
  have HTOT := Lib.hid htot
  have HWW := Lib.hid hW
  have HE := Lib.hid hE
  have HV := Lib.hid hV
  have HFI : Hid (Form l /\ i < l.length) := ⟨hF, hi⟩
  have t1 := hwk.blk.cell 1
  simp at t1
  clear hr hb0 hbB hk0 hW hwk hrow htot hE hV hF hi
  go_enter Try.func62, Try.ntmps62
  go_wp2_with fail
  refine HC.out.mono ?_; rintro e w2 ⟨k0, hf0, rfl, hb2⟩
  have HS2 : Hid (WkI m A l c u W V i rb B g tt rk C tv L Al cl w (.int .i64 ((k0 : Int) - 1)) w2) := ⟨k0, rk, tt, rfl, hf0.le, hrk, Nat.le_refl _, fnd_take hf0 (by omega), rfl, HS0.out.later hb2⟩
  have hk0z : (k0 : Int) <= 901 := by have := hf0.le; omega
  clear hf0 hb2 t1 HC HS0
  go_wp2
  go_loopw [6] (WkI m A l c u W V i rb B g tt rk C tv L Al cl w) (fun x _ => (intOf x + 1).toNat)
  case atStart => exact HS2.out
  case round =>
    obtain ⟨kk, r1, Z, rfl, hkk, hr1, hZ, htk, hsum, hst⟩ := hrel
    have HST := Lib.hid hst
    clear hst HS2
    cases kk with
    | zero =>
      exfalso
      rw [List.take_zero] at htk
      have h0 := plF_empty htk.symm
      have : sg Z (kdf l i W tt C) = 0 := sg_nil fun p hp => by
        have := h0 p hp
        have : C p = 0 := by omega
        unfold kdf; rw [this, Nat.zero_mul]
      have := HTOT.out
      omega
    | succ k =>
      have hkl : k < (plF (W.length + 1) fun p => min 2 (C p)).length := by omega
      obtain ⟨q, x, hq1, hq2, hx2, hx0, how, hlt1, hge1⟩ := wkd_step HFI.out.1 HFI.out.2 hkl htk hZ hr1 hsum
      obtain ⟨bl, ol, hA, hblt, hc⟩ := HST.out.row.two (by intro e; rw [e] at hkl; simp at hkl)
      subst hA
      have hcq : ∀ w' , RcRow w' (some ⟨bl, ol, none⟩) (plF (W.length + 1) fun p => min 2 (C p)) -> w'.cell? ⟨bl, ol + k * 2, none⟩ = some (.int .i64 (q : Int)) /\ w'.cell? ⟨bl, ol + k * 2 + 1, none⟩ = some (.int .i64 (x : Int)) := fun w' hrw => by
        obtain ⟨b', o', hA', -, hc'⟩ := hrw.two (by intro e; rw [e] at hkl; simp at hkl)
        cases hA'
        have := hc' k hkl
        rw [hq1] at this
        exact this
      have HCQ := Lib.hid hcq
      have HLT := Lib.hid hlt1
      have HGE := Lib.hid hge1
      have HWY := Lib.hid (fun (w' : World) (hr' : Rdr rb A l c u W V m w') => cways_any HE.out rb u W q tt w' hr' HWW.out hn (by omega) ht)
      have hkz : (k : Int) < ((plF (W.length + 1) fun p => min 2 (C p)).length : Int) := by omega
      have hkz0 : ¬ (k : Int) < 0 := by omega
      have hkge : ¬ (((k + 1 : Nat) : Int) - 1 < 0) := by omega
      have hke : (((k + 1 : Nat) : Int) - 1) = (k : Int) := by omega
      have hk9 : (k : Int) <= 901 := by omega
      rw [hke]
      obtain ⟨own, hown⟩ : ∃ own, rowV l i W q tt = own := ⟨_, rfl⟩
      rw [hown] at HLT HGE HWY how
      have hxo : x * own <= 2 * 2 := Nat.mul_le_mul hx2 how
      obtain ⟨xo, hxoe⟩ : ∃ xo, x * own = xo := ⟨_, rfl⟩
      have hxoz : (x : Int) * (own : Int) = (xo : Int) := by rw [<- hxoe]; exact (Int.natCast_mul x own).symm
      rw [hxoe] at HLT HGE hxo
      have HXR := Lib.hid hx2
      clear hc hcq hlt1 hge1 hq1 htk hsum hown hxoe hke hkge
      generalize hSe : (plF (W.length + 1) fun p => min 2 (C p)) = S at *
      have HSE := Lib.hid hSe
      clear hSe
      generalize hln : S.length = ln at *
      have HLN := Lib.hid hln
      clear hln
      go_upto_region 4 with (fail)
      refine wp_region_stable_tail 14 (S := (WkT m A l c u W V rb B g tt r1 tv L (some ⟨bl, ol, none⟩) cl S w)) (hSt := fun _ _ h hb => h.later hb) (plan := [[(0, none)], [(25, some 0)], [(26, some 1)], [(27, some 2)], [(1, none)], [(2, none)], [(6, none)], [(30, some 5), (31, some 6)], [(32, some 7)], [(33, some 8)], [(0, none)], [(35, some 10)], [(36, some 11)], [(37, some 12)]]) rfl rfl (by kernel_rfl) (by kernel_rfl) (by kernel_rfl) (by kernel_rfl) ?hS ?_
      rotate_left
      iterate 14 first
        | (refine chain_skip (by rfl) (by rfl) ?_)
        | (apply chain_want (by rfl)
           · intro act wx hS hr
             simp at hr
             have t0 := hS.t.wk.blk.cell 0
             have t1 := hS.t.wk.blk.cell 1
             have t2 := hS.t.wk.blk.cell 2
             simp at t0 t1 t2
             have d0 := (HCQ.out _ hS.row).1
             go_simp
             (try go_ints)
             first
               | exact Done.same
          )
      show ∀ w', _ -> _
      intro w8 hw8
      simp [Act.put]
      case hS => exact HST.out
      have HX8 := Lib.hid hw8
      have HC := Lib.hid (HWY.out w8 hw8.t.rd)
      clear hw8 HST HWY
      go_wp2_with fail
      refine HC.out.mono ?_; rintro e9 w9 ⟨rfl, hrk9⟩
      have hkc := hrk9.kc ⟨_, HX8.out.t.rd.kept⟩
      have HX9 : Hid (WkT m A l c u W V rb B g tt r1 tv L (some ⟨bl, ol, none⟩) cl S w w9) := ⟨HX8.out.t.grow hrk9, hkc.rrow HX8.out.row⟩
      have d1 := (HCQ.out _ HX9.out.row).2
      have d0 := (HCQ.out _ HX9.out.row).1
      have t2 := HX9.out.t.wk.blk.cell 2
      simp at t2
      clear hkc hrk9 HC HX8
      by_cases hcmp : r1 < xo
      · obtain ⟨ho0, v, k1, k2, k3, k4⟩ := HLT.out hcmp
        have hcz : (r1 : Int) < (xo : Int) := by omega
        have HT := Lib.hid (ctell2_any HV.out rb u W B g tt r1 tv L q own v w9 HX9.out.t.rd HWW.out HX9.out.t.low HX9.out.t.wk (by omega) ht hr1 ho0 how hL k4)
        have HK : Hid (∀ e w', TelP m l V B g rb q (r1 / own) v L w9 e w' /\ St g w9 w' -> WkdP m l V i W B g rb tt rk C L w e w' /\ St g w w') := fun e w' hT => by
          obtain ⟨⟨tv', x', h1, h2, h3, h4⟩, h5⟩ := hT
          exact ⟨⟨q, _, _, v, hq2, k1, k2, k3, k4, tv', x', h1, h2, h3, HX9.out.t.kp.then h4⟩, HX9.out.t.st.trans h5⟩
        clear k1 k2 k3 k4 HLT HGE
        go_wp2_with fail
        refine HT.out.mono ?_; rintro e w10 ⟨⟨tv', x', rfl, h1, h2, h3⟩, h5⟩
        have HD := Lib.hid (HK.out _ w10 ⟨⟨tv', x', rfl, h1, h2, h3⟩, h5⟩)
        clear h1 h2 h3 h5 HT HK HX9 t2 d0 d1
        go_wp2
        refine bodyPost_ret (results_none rfl _ _ _) rfl ?_
        exact HD.out
      · have hge := HGE.out hcmp
        have hcz : ¬ (r1 : Int) < (xo : Int) := by omega
        have hsz : (r1 : Int) - (xo : Int) = ((r1 - xo : Nat) : Int) := by omega
        have hr2 : r1 - xo <= 1 := by omega
        have f2 := HX9.out.t.wk.blk.frozen 2
        have HN : Hid (WkI m A l c u W V i rb B g tt rk C tv L (some ⟨bl, ol, none⟩) cl w (.int .i64 ((k : Int) - 1)) (w9.setCell ⟨g, 2, none⟩ (.int .i64 ((r1 - xo : Nat) : Int)))) := by
          have hb := HX9.out.t.wk.blk
          have hs : (w9.setCell ⟨g, 2, none⟩ (.int .i64 ((r1 - xo : Nat) : Int))).heap.size = w9.heap.size := by simp [World.setCell]
          have hrk : Rk m l V B [] w (w9.setCell ⟨g, 2, none⟩ (.int .i64 ((r1 - xo : Nat) : Int))) := HX9.out.t.kp.setT hb (by decide) HX9.out.t.wk.low 2 _
          refine ⟨k, r1 - xo, q, rfl, ?_, hr2, by omega, ?_, ?_, ⟨⟨hrk, by rw [hs]; exact HX9.out.t.low, HRD.out _ hrk, HX9.out.t.wk.rank _, HX9.out.t.st.set _ _⟩, ?_⟩⟩
          · rw [HSE.out, HLN.out]; omega
          · rw [HSE.out]; exact hge.1
          · exact hge.2
          · rw [HSE.out]
            refine HX9.out.row.keep fun b' cur' hb' => hb'.setCell_ne (a := ⟨g, 2, none⟩) (fun e => ?_) _
            have e : g = b' := e
            subst e
            unfold Blk at hb hb'
            rw [hb] at hb'
            have h8 := Option.some.inj hb'
            injection h8 with _ h9
            exact absurd h9 (by decide)
        generalize r1 - xo = r2 at *
        clear HLT HGE HX9 hge
        go_wp2
        go_roundw
        case rel => exact HN.out
        case measure => simp [intOf]
theorem cwkid_any {A : Option Addr} {l : List Nd} {c m : Nat} {V : Wd} {i : Nat} (hF : Form l) (hi : i < l.length) (hE : EndsC A l c m V i) (hV : ValC A l c m V i) (rb : Nat) (u : Value) (W : Wd) (B g tt rk : Nat) (tv : Value) (L : List VCl) (C : Nat -> Nat) (sv : Value) (wb w : World)
    (hb0 : Rdr rb A l c u W V m wb) (hbB : wb.heap.size <= B) (hk0 : Rk m l V B [] wb w) (hW : W <+: V) (hn : V.length <= 900) (hB : B <= w.heap.size) (hwk : Wk B g rb tt rk tv L w) (ht : tt <= W.length) (hrk : rk <= 1) (hL : L.length <= 1000000) (hs : IsR w sv (plF (W.length + 1) fun p => min 2 (C p))) (htot : rk < sg tt (kdf l i W tt C)) :
    Calls Try.prog 62 #[.pointer (some ⟨g, 0, none⟩), .int .i64 (i : Int), sv] w (WkdP m l V i W B g rb tt rk C L w) :=
  (cwkid2_any hF hi hE hV rb u W B g tt rk tv L C sv wb w hb0 hbB hk0 hW hn hB hwk ht hrk hL hs htot).mono fun e w' h => h.1
end Go.Proofs.Ytpbbokdmoaadfaa
