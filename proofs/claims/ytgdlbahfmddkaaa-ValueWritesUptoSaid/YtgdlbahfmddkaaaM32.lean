/- Words gathered one behind the other, till one fails: the plain mathematics. -/
import Derived.Test.YtgdlbahfmddkaaaM21
import Derived.Test.YtgdlbahfmddkaaaM24
import Derived.Lib.AppendZerosOnto
import Derived.Lib.AppendStr
namespace Go.Proofs.Ytgdlbahfmddkaaa
open Go
set_option linter.unusedVariables false
set_option linter.unusedSimpArgs false

/-- A word of so many bytes or more. -/
def fitW (m : Nat) : Option Wd → Option Wd
  | none => none
  | some w => if w.length < m then none else some w
theorem fit_s (m : Nat) (w : Wd) : fitW m (some w) = if w.length < m then none else some w := rfl
/-- Words one behind the other, each of so many bytes or more. -/
def gthW (m : Nat) : List (Option Wd) → Option Wd
  | [] => some []
  | r :: rs => match fitW m r with
    | none => none
    | some w => (gthW m rs).map (w ++ ·)
def leastK (n : Nd) : Nat := if n.kind = 6 ∨ n.kind = 7 then 1 else 0
theorem gth_zero : ∀ rs, gthW 0 rs = catW rs
  | [] => rfl
  | none :: rs => rfl
  | some w :: rs => by
    rw [gthW, fit_s, if_neg (Nat.not_lt_zero _), gth_zero rs]; rfl
theorem gth_one : ∀ {rs : List (Option Wd)}, some [] ∉ rs → gthW 1 rs = catW rs
  | [], _ => rfl
  | none :: rs, _ => rfl
  | some w :: rs, h => by
    have hw : ¬ w.length < 1 := fun e => h (by
      have : w = [] := List.length_eq_zero_iff.1 (by omega)
      subst this; exact List.mem_cons_self ..)
    rw [gthW, fit_s, if_neg hw, gth_one (fun e => h (List.mem_cons_of_mem _ e))]; rfl
theorem gth_bad : ∀ {rs : List (Option Wd)}, some [] ∈ rs → gthW 1 rs = none
  | [], h => by cases h
  | none :: rs, _ => rfl
  | some w :: rs, h => by
    rw [gthW, fit_s]
    by_cases hw : w.length < 1
    · rw [if_pos hw]
    · rw [if_neg hw]
      have : some [] ∈ rs := by
        rcases List.mem_cons.1 h with e | e
        · injection e with e; subst e; exact absurd (by decide) hw
        · exact e
      rw [gth_bad this]; rfl
theorem gth_val (n : Nd) (k : Int) (b : UInt8) (t : List UInt8) (p : Int) (rs : List (Option Wd)) : valW n k b t p rs = if headV n k b t p rs.length then (gthW (leastK n) rs).bind (capW n b) else none := by
  unfold valW leastK
  by_cases hh : headV n k b t p rs.length
  · rw [if_pos hh]
    by_cases hk : n.kind = 6 ∨ n.kind = 7
    · rw [if_pos hk]
      by_cases hf : some [] ∈ rs
      · rw [if_neg (fun h => h.2 hk hf), gth_bad hf]; rfl
      · rw [if_pos ⟨hh, fun _ => hf⟩, gth_one hf]
    · rw [if_neg hk, if_pos ⟨hh, fun h => absurd h hk⟩, gth_zero]
  · rw [if_neg hh, if_neg (fun h => hh h.1)]
/-- So far gathered. -/
def Acc (m : Nat) (rs : List (Option Wd)) (k : Nat) (W : Wd) : Prop := gthW m rs = (gthW m (rs.drop k)).map (W ++ ·)
theorem Acc.zero (m : Nat) (rs : List (Option Wd)) : Acc m rs 0 [] := by unfold Acc; simp
theorem drop_get {rs : List (Option Wd)} {k : Nat} {r : Option Wd} (h : rs[k]? = some r) : rs.drop k = r :: rs.drop (k + 1) := by
  have hk := (List.getElem?_eq_some_iff.1 h).1
  rw [List.drop_eq_getElem_cons hk]
  rw [List.getElem?_eq_getElem hk] at h
  injection h with h
  rw [h]
theorem Acc.none {m : Nat} {rs : List (Option Wd)} {k : Nat} {W : Wd} {r : Option Wd} (h : Acc m rs k W) (hr : rs[k]? = some r) (hf : fitW m r = none) : gthW m rs = none := by
  rw [h, drop_get hr, gthW, hf]; rfl
theorem Acc.next {m : Nat} {rs : List (Option Wd)} {k : Nat} {W V : Wd} {r : Option Wd} (h : Acc m rs k W) (hr : rs[k]? = some r) (hf : fitW m r = some V) : Acc m rs (k + 1) (W ++ V) := by
  unfold Acc at *
  rw [h, drop_get hr, gthW, hf]
  cases gthW m (rs.drop (k + 1)) with
  | none => rfl
  | some x => simp
theorem Acc.end {m : Nat} {rs : List (Option Wd)} {k : Nat} {W : Wd} (h : Acc m rs k W) (hk : rs.length ≤ k) : gthW m rs = some W := by
  rw [h, List.drop_eq_nil_of_le hk]
  simp [gthW]
theorem fit_some {m : Nat} {r : Option Wd} {V : Wd} (h : fitW m r = some V) : r = some V := by
  cases r with
  | none => cases h
  | some w =>
    unfold fitW at h
    simp only at h
    split at h
    · cases h
    · exact h
end Go.Proofs.Ytgdlbahfmddkaaa
/- Words that a call writes behind others: what stays while it does. -/
namespace Go.Proofs.Ytgdlbahfmddkaaa
open Go Go.RowKit
set_option linter.unusedVariables false
set_option linter.unusedSimpArgs false

/-- A row's block is none of another type. -/
theorem own_typedU {w : World} {base size n : Nat} {e t : TypeId} {v : Value} {xs : List Value} (h : w.ownsRow base e size v n xs) {g : Nat} {vs : Array Value} (hg : Blk w g vs t) (hne : e ≠ t) : ∀ k, v.ownBlock = some k → k ≠ g := by
  intro k hk e2
  subst e2
  obtain ⟨h0, ⟨hv, hn⟩ | ⟨g2, cap, cur, hv, hb, hg2, hr⟩⟩ := h
  · rw [hv] at hk; cases hk
  · rw [hv] at hk
    have : g2 = k := by simpa [Value.ownBlock] using hk
    subst this
    unfold Blk at hg
    rw [hg2] at hg
    have := Option.some.inj hg
    injection this with _ h2
    exact hne h2
/-- What a call does that writes bytes of its own: what lay below B stays, and all blocks that aren't of bytes. -/
structure Kp (B : Nat) (w w' : World) : Prop where
  bel : Below B w w'
  typ : ∀ g vs t, t ≠ 5 → Blk w g vs t → Blk w' g vs t
theorem Kp.refl (B : Nat) (w : World) : Kp B w w := ⟨Below.refl _ _, fun g vs t _ h => h⟩
theorem Kp.trans {B : Nat} {a b c : World} (h : Kp B a b) (k : Kp B b c) : Kp B a c := ⟨h.bel.trans k.bel, fun g vs t ht x => k.typ g vs t ht (h.typ g vs t ht x)⟩
theorem Kp.of {B : Nat} {w w' : World} (hb : Below w.heap.size w w') (hB : B ≤ w.heap.size) : Kp B w w' := ⟨hb.mono hB, fun g vs t _ h => h.later hb⟩
theorem Kp.grown {B : Nat} {w w' : World} {v : Value} {l : List Nat} (h : Own8 w B v l) (hg : w.grownBy w' v.ownBlock) (hB : B ≤ w.heap.size) : Kp B w w' :=
  ⟨(Below.refl B w).grown hg hB (fun k hk => (World.ownsRow.lt h k hk).1), fun g vs t ht k => (hg.block g k.lt (fun e => own_typedU h k (Ne.symm ht) g e.symm rfl)).trans k⟩
theorem Kp.size {B : Nat} {w w' : World} (h : Kp B w w') : w.heap.size ≤ w'.heap.size := h.bel.size
theorem nats_set (W : List UInt8) (j : Nat) (x : UInt8) : nats (W.set j x) = (nats W).set j x.toNat := by unfold nats; rw [List.map_set]
theorem bytesV_set (l : List Nat) (j x : Nat) : bytesV (l.set j x) = (bytesV l).set j (.int .u8 (x : Int)) := by unfold bytesV; rw [List.map_set]
theorem own8_blk {w : World} {B : Nat} {v : Value} {W : List UInt8} (h : Own8 w B v (nats W)) (hne : W ≠ []) : ∃ g cap cur, v = .slice (some ⟨g, 0, none⟩) W.length cap ∧ B ≤ g ∧ Blk w g cur 5 ∧ W.length ≤ cap ∧ cap ≤ maxLen ∧ cur.size = cap ∧ cur.toList.take W.length = bytesV (nats W) := by
  obtain ⟨h0, ⟨hv, hn⟩ | ⟨g, cap, cur, hv, hb, hg, h1, h2, h3, h4⟩⟩ := h
  · rw [nats_length] at hn
    exact absurd (List.length_eq_zero_iff.1 hn) hne
  · rw [nats_length, Nat.mul_one] at *
    exact ⟨g, cap, cur, hv, hb, hg, h1, h2, h3, h4⟩
theorem bytesV_at (W : List UInt8) (j : Nat) (hj : j < W.length) : (bytesV (nats W))[j]? = some (.int .u8 (((W.getD j 0).toNat : Nat) : Int)) := by unfold bytesV nats; simp [hj]
/-- A byte of its own is stored to. -/
theorem own8_set {w : World} {B g cap : Nat} {W : List UInt8} (h : Own8 w B (.slice (some ⟨g, 0, none⟩) W.length cap) (nats W)) (j : Nat) (hj : j < W.length) (x : UInt8) :
    Own8 (w.setCell ⟨g, j, none⟩ (.int .u8 ((x.toNat : Nat) : Int))) B (.slice (some ⟨g, 0, none⟩) W.length cap) (nats (W.set j x)) ∧ (B ≤ w.heap.size → Kp B w (w.setCell ⟨g, j, none⟩ (.int .u8 ((x.toNat : Nat) : Int)))) ∧
      w.cell? ⟨g, j, none⟩ = some (.int .u8 (((W.getD j 0).toNat : Nat) : Int)) ∧ w.frozen? ⟨g, j, none⟩ = false := by
  have hne : W ≠ [] := fun e => by rw [e] at hj; exact absurd hj (Nat.not_lt_zero j)
  obtain ⟨g2, cap2, cur, hv, hb, hk, h1, h2, h3, h4⟩ := own8_blk h hne
  simp only [Value.slice.injEq, Option.some.injEq, Addr.mk.injEq, and_true, true_and] at hv
  obtain ⟨rfl, rfl⟩ := hv
  have hs := hk.setCell j (.int .u8 ((x.toNat : Nat) : Int))
  refine ⟨?_, fun hB => ⟨(Below.refl B w).setCell (p := ⟨g, j, none⟩) hb _, fun g3 vs t ht k => ?_⟩, ?_, hk.frozen j⟩
  · refine ⟨by rw [bytesV_length, Nat.mul_one], .inr ⟨g, cap, _, by rw [nats_length, List.length_set], hb, hs, by rw [nats_length, List.length_set]; exact h1, h2, by rw [Array.size_setIfInBounds, h3, Nat.mul_one], ?_⟩⟩
    rw [nats_length, List.length_set, Nat.mul_one, Array.toList_setIfInBounds, List.take_set, h4, nats_set, bytesV_set]
  · refine k.setCell_ne (a := ⟨g, j, none⟩) (fun e => ?_) _
    have e : g = g3 := e
    subst e
    unfold Blk at hk k
    rw [hk] at k
    have := Option.some.inj k
    injection this with _ h5
    exact ht h5.symm
  · rw [hk.cell]
    have := bytesV_at W j hj
    rw [← h4, List.getElem?_take, if_pos hj] at this
    rw [← this]; simp
/-- A text's bytes behind others. -/
theorem strCells_nats (t : List UInt8) : Lib.strCells (bs t) = bytesV (nats t) := by
  unfold Lib.strCells bytesV nats
  rw [List.map_map]
  simp only [bs_data]
  rfl
set_option maxRecDepth 100000 in
theorem wpList_append_txt {w : World} {ops : Array Oper} {rest : List Oper} {o : Oper} {a : Act} {Q : Exit → Act → World → Prop} (hgd : o.guard = none) (s x : Operand)
    (ho : o.op = .call { callee := .builtin .append, args := #[s, x], argTypes := #[31, 9] })
    (base : Nat) (v : Value) (W : List UInt8) (hs : a.eval s = v) (hown : Own8 w base v (nats W)) (t : List UInt8) (hx : a.eval x = .string (bs t)) (hlen : W.length + t.length < 1073741824) (hbase : base ≤ w.heap.size)
    (h : ∀ v' w', Own8 w' base v' (nats (W ++ t)) → w.grownBy w' v.ownBlock → wpList Try.prog ops Q rest (a.put o.dst v') w') : wpList Try.prog ops Q (o :: rest) a w := by
  obtain ⟨ib, hib, hz0, hz1, hz2⟩ := info_parts infoU8
  have hsz : (bs t).size = t.length := by simp [bs_size]
  refine Lib.wpList_append_own_string w hgd s x 31 9 ho base 5 ib Try.underlying31 Try.underlying9 hib hz0 hz1 hz2 v (nats W).length (bytesV (nats W)) hs hown (bs t) hx (by rw [nats_length, hsz]; unfold maxLen; omega) (by rw [nats_length, hsz]; omega) hbase ?_
  intro v' w' h1 h2 _
  refine h v' w' ?_ h2
  unfold Own8
  rw [nats_append, bytesV_append, List.length_append, nats_length t, ← strCells_nats t, ← hsz]
  exact h1
/-- Zeros behind others: what stays. -/
theorem run_append_room_zeros {P : Program} (w : World) (t tn ty e : TypeId) (i : TypeInfo) (z : Value) (kq kn : IntKind) (ht : P.underlying t = some (.slice e)) (htn : P.underlying tn = some (.int kn)) (hi : P.info? e = some i) (hz : i.zero = some z) (hs1 : i.size = 1) (hby : i.bytes = 1) (hzc : z.cells = #[z]) (hzo : z.oneCell' = true)
    (g sLen sCap k : Nat) (cur : Array Value) (hg : w.heap[g]? = some (.cells cur e (0, 0))) (h0 : 0 < k) (h1000 : k ≤ 1000)
    (hroom : sLen + k ≤ sCap) (hfit : sLen + k ≤ cur.size) :
    (Builtin.append_ #[t, tn] ty #[.slice (some ⟨g, 0, none⟩) sLen sCap, .int kq k]).run P w =
      .ok (.slice (some ⟨g, 0, none⟩) (sLen + k) sCap) (w.setRow g (cur.toList.take sLen ++ List.replicate k z ++ cur.toList.drop (sLen + k)).toArray) := by
  have hk : k ≠ 0 := by omega
  have hw : IntKind.i64.wrap (k : Int) = k := by rw [IntKind.wrap_i64]; omega
  have hneg : ¬ ((k : Int) < 0) := by omega
  have h48i : ¬ (281474976710656 < (k : Int)) := by omega
  have hzr : Builtin.zeroCells #[z] k = (List.replicate k z).toArray := by
    unfold Builtin.zeroCells
    apply Array.ext
    · simp
    · intro j h1 h2
      simp [Nat.mod_one]
  have hst := run_storeCells_at P g sLen e (List.replicate k z) 0 cur w hg (by rw [List.length_replicate]; omega) (fun v hv => by rw [(List.mem_replicate.1 hv).2]; exact hzo)
  simp only [Nat.add_zero, List.length_replicate] at hst
  simp [Builtin.append_, run_underlying ht, run_underlying htn, sizeOf, typeInfo, zeroValue, hi, hz, hs1, hby, asInt, asIntOf, hw, hneg, hk, h48i, hroom, hzc, hzr, Addr.add_lit, hst]
theorem replicate_bytes (k : Nat) : bytesV (nats (List.replicate k (0 : UInt8))) = List.replicate k (.int .u8 0) := by
  unfold bytesV nats
  simp
theorem own8_prefix {w w' : World} {B g cap : Nat} {cur cur2 : Array Value} {L : List UInt8} (hk : Blk w g cur 5) (hk2 : Blk w' g cur2 5) (hs : cur.size = cap) (hs2 : cur2.size = cap) (hL : cur2.toList.take L.length = bytesV (nats L))
    (hg : w.grownBy w' (some g)) (u : Value) (U : List UInt8) (hU : U <+: L) (h : Own8 w B u (nats U)) : Own8 w' B u (nats U) := by
  by_cases hgu : u.ownBlock = some g
  · obtain ⟨u0, ⟨u1, _⟩ | ⟨g3, cap3, cur3, u1, u2, u3, u4, u5, u6, u7⟩⟩ := h
    · rw [u1] at hgu; cases hgu
    · rw [u1] at hgu
      have e3 : g3 = g := by simpa [Value.ownBlock] using hgu
      subst e3
      have e4 := u3.symm.trans hk
      simp only [Option.some.injEq, Obj.cells.injEq, and_true] at e4
      refine ⟨u0, .inr ⟨g3, cap3, cur2, u1, u2, hk2, u4, u5, by rw [hs2, ← u6, e4, hs], ?_⟩⟩
      rw [nats_length, Nat.mul_one] at u7 ⊢
      obtain ⟨V, rfl⟩ := hU
      have : cur2.toList.take U.length = (cur2.toList.take (U ++ V).length).take U.length := by rw [List.take_take]; congr 1; simp
      rw [this, hL, nats_append, bytesV_append]
      have hl : (bytesV (nats U)).length = U.length := by rw [bytesV_length, nats_length]
      rw [← hl, List.take_left]
  · exact World.ownsRow.kept h hg (by right; exact hgu)
set_option maxRecDepth 100000 in
theorem run_append_zeros (w : World) (B : Nat) (v : Value) (W : List UInt8) (hown : Own8 w B v (nats W)) (k : Nat) (h0 : 0 < k) (hk : k ≤ 1000) (hlen : W.length + k ≤ 1073741824) (hB : B ≤ w.heap.size) (ty : TypeId) :
    ∃ v' w', (Builtin.append_ #[31, 3] ty #[v, .int .i64 (k : Int)]).run Try.prog w = .ok v' w' ∧ Own8 w' B v' (nats (W ++ List.replicate k 0)) ∧ w.grownBy w' v.ownBlock ∧
      (∀ u U, U <+: W ++ List.replicate k 0 → Own8 w B u (nats U) → Own8 w' B u (nats U)) := by
  obtain ⟨ib, hib, hz0, hz1, hz2⟩ := info_parts infoU8
  have hcells : (Value.int .u8 0).cells = #[.int .u8 0] := rfl
  have hzr : ∀ k, Builtin.zeroCells #[Value.int .u8 0] k = (List.replicate k (Value.int .u8 0)).toArray := fun k => by
    unfold Builtin.zeroCells
    apply Array.ext
    · simp
    · intro j h1 h2
      simp [Nat.mod_one]
  have hxl : (bytesV (nats (W ++ List.replicate k 0))) = bytesV (nats W) ++ List.replicate k (.int .u8 0) := by rw [nats_append, bytesV_append, replicate_bytes]
  have hwl : (bytesV (nats W)).length = W.length := by rw [bytesV_length, nats_length]
  -- a new row
  have new : ∀ (cap : Nat), W.length + k ≤ cap → cap ≤ maxLen → (w.drew.alloc (.cells ((bytesV (nats W)).toArray ++ Builtin.zeroCells (Value.int .u8 0).cells k ++ Builtin.zeroCells (Value.int .u8 0).cells (cap - (W.length + k))) 5)).ownsRow B 5 1 (.slice (some ⟨w.heap.size, 0, none⟩) (W.length + k) cap) (W.length + k) (bytesV (nats (W ++ List.replicate k 0))) := fun cap h1 h2 => by
    rw [hcells, hzr, hzr]
    refine ⟨by rw [bytesV_length, nats_length, List.length_append, List.length_replicate, Nat.mul_one], .inr ⟨w.heap.size, cap, _, rfl, hB, heap_alloc_new w.drew _, h1, h2, ?_, ?_⟩⟩
    · simp [hwl]; omega
    · rw [hxl]
      simp only [Array.toList_append, List.toList_toArray, Nat.mul_one]
      rw [List.take_left' (by rw [List.length_append, hwl, List.length_replicate])]
  have late : ∀ (cap : Nat) (row : Option Nat), w.grownBy (w.drew.alloc (.cells ((bytesV (nats W)).toArray ++ Builtin.zeroCells (Value.int .u8 0).cells k ++ Builtin.zeroCells (Value.int .u8 0).cells (cap - (W.length + k))) 5)) row := fun cap row =>
    ⟨rfl, rfl, rfl, by simp, fun j hj _ => Below.heap_alloc w.drew _ j hj⟩
  have fin : ∀ (w' : World) (v' : Value), w'.ownsRow B 5 1 v' (W.length + k) (bytesV (nats (W ++ List.replicate k 0))) → Own8 w' B v' (nats (W ++ List.replicate k 0)) := fun w' v' h => by
    unfold Own8
    rw [nats_length, List.length_append, List.length_replicate]; exact h
  have hown2 := hown
  obtain ⟨hl0, ⟨rfl, hn⟩ | ⟨g, cap, cur, rfl, hbg, hgg, hnc, hcm, hcs, htake⟩⟩ := hown
  · rw [nats_length] at hn
    have hW : W = [] := List.length_eq_zero_iff.1 hn
    subst hW
    have hr := Lib.run_append_nil_zeros (P := Try.prog) w 31 3 ty 5 ib (.int .u8 0) .i64 .i64 Try.underlying31 Try.underlying3 hib hz0 k h0 (by omega) (by omega) (by rw [hz2]; omega)
    have hge := grownCap_ge w k 0 5
    have hcm : grownCap w k 0 5 ≤ maxLen := grownCap_le_maxLen w k 0 _ (by unfold maxLen; omega)
    have n1 := new (grownCap w k 0 5) (by simp; exact hge) hcm
    have n2 := late (grownCap w k 0 5)
    simp only [List.length_nil, Nat.zero_add] at n1 n2
    have hz : (bytesV (nats [])).toArray = #[] := rfl
    rw [hz, Array.empty_append] at n1 n2
    exact ⟨_, _, hr, fin _ _ (by rw [List.length_nil, Nat.zero_add]; exact n1), n2 _, fun u U _ hu => World.ownsRow.kept hu (n2 none) (by cases hh : u.ownBlock <;> simp)⟩
  · rw [nats_length] at *
    by_cases hroom : W.length + k ≤ cap
    · have hcs' : cur.size = cap := by simpa using hcs
      have hr := run_append_room_zeros (P := Try.prog) w 31 3 ty 5 ib (.int .u8 0) .i64 .i64 Try.underlying31 Try.underlying3 hib hz0 hz1 hz2 rfl rfl g W.length cap k cur hgg h0 hk hroom (by omega)
      have ht' : cur.toList.take W.length = bytesV (nats W) := by simpa using htake
      have hk2 := setRow_heap w g cur (cur.toList.take W.length ++ List.replicate k (Value.int .u8 0) ++ cur.toList.drop (W.length + k)).toArray 5 (0, 0) hgg
      have hsz2 : (cur.toList.take W.length ++ List.replicate k (Value.int .u8 0) ++ cur.toList.drop (W.length + k)).toArray.size = cap := by
        simp only [List.size_toArray, List.length_append, List.length_take, List.length_drop, Array.length_toList, List.length_replicate]; omega
      have htk : (cur.toList.take W.length ++ List.replicate k (Value.int .u8 0) ++ cur.toList.drop (W.length + k)).take (W ++ List.replicate k 0).length = bytesV (nats (W ++ List.replicate k 0)) := by
        rw [hxl, ht', List.take_left' (by rw [List.length_append, List.length_append, hwl, List.length_replicate, List.length_replicate])]
      have hgb : w.grownBy (w.setRow g (cur.toList.take W.length ++ List.replicate k (Value.int .u8 0) ++ cur.toList.drop (W.length + k)).toArray) (some g) := ⟨rfl, rfl, rfl, by simp, fun j _ hj => setRow_other w g j _ (fun e => hj (by simp [e]))⟩
      refine ⟨_, _, hr, fin _ _ ⟨by rw [bytesV_length, nats_length, List.length_append, List.length_replicate, Nat.mul_one], .inr ⟨g, cap, _, rfl, hbg, hk2, hroom, hcm, by rw [hsz2, Nat.mul_one], ?_⟩⟩, hgb, fun u U hU hu => own8_prefix hgg hk2 hcs' hsz2 (by rw [List.toList_toArray]; exact htk) hgb u U hU hu⟩
      rw [List.toList_toArray, Nat.mul_one]
      rw [List.length_append, List.length_replicate] at htk
      exact htk
    · have holds : ∀ j u, (bytesV (nats W))[j]? = some u → w.drew.cell? ((⟨g, 0, none⟩ : Addr).add j) = some u := fun j u hu => World.ownsRow.cells (w := w.drew) (base := B) (e := 5) (size := 1) (v := .slice (some ⟨g, 0, none⟩) W.length cap) (n := W.length) (xs := bytesV (nats W)) ⟨hl0, .inr ⟨g, cap, cur, rfl, hbg, hgg, hnc, hcm, hcs, htake⟩⟩ (g := g) rfl j u hu
      have hf := run_firstCells_some (P := Try.prog) w.drew ib.size W.length ⟨g, 0, none⟩ W.length cap (bytesV (nats W)) (by rw [hwl, hz1, Nat.mul_one]) holds
      have hr := Lib.run_append_grow_zeros (P := Try.prog) w 31 3 ty 5 ib (.int .u8 0) .i64 .i64 Try.underlying31 Try.underlying3 hib hz0 (some ⟨g, 0, none⟩) W.length cap (bytesV (nats W)) hf k h0 (by omega) (by omega) (by omega) (by rw [hz2]; omega) (by rw [hz2]; exact growslice_fits (by omega) (by omega))
      have hge := grownCap_ge w (W.length + k) cap 5
      have hcm2 : grownCap w (W.length + k) cap 5 ≤ maxLen := grownCap_le_maxLen w (W.length + k) cap _ (by unfold maxLen; omega)
      exact ⟨_, _, hr, fin _ _ (new _ hge hcm2), late _ _, fun u U _ hu => World.ownsRow.kept hu (late _ none) (by cases hh : u.ownBlock <;> simp)⟩
end Go.Proofs.Ytgdlbahfmddkaaa
/- Is a value one of a node, but for its kids; the node that a kid is of; are two values alike: the program's walks. -/
namespace Go.Proofs.Ytgdlbahfmddkaaa
open Go Go.RowKit
set_option linter.unusedVariables false
set_option linter.unusedSimpArgs false
set_option maxRecDepth 100000

/-- The node that a kid is of. -/
theorem nodeBox (w : World) (n : Nd) : Blk (w.alloc (.cells (ndC n) 44)) w.heap.size (ndC n) 44 := Blk.new w _ _
set_option maxHeartbeats 16000000 in
theorem vpart_any (n : Nd) (p : Int) (k : Nat) (hkk : k < 4611686018427387904) (w : World) : Calls Try.prog 44 #[.agg (ndC n), .int .i64 p, .int .i64 (k : Int)] w (Ans w (.int .i64 (kidN n p k))) := by
  have HB := Lib.hid (nodeBox w n)
  have hal : Hid (Below w.heap.size w (w.alloc (.cells (ndC n) 44))) := (Below.refl _ _).alloc (Nat.le_refl _) _
  have HQ : Hid (n.kind = 4 ∧ k = 1 ∨ n.kind = 5 ∧ p = 1 → kidN n p k = n.b) := fun h => by unfold kidN; rw [if_pos h]
  have HR : Hid (¬ (n.kind = 4 ∧ k = 1 ∨ n.kind = 5 ∧ p = 1) → kidN n p k = n.a) := fun h => by unfold kidN; rw [if_neg h]
  generalize kidN n p k = r at *
  obtain ⟨nk, na, nb, nlo, nhi, ncls, ntext⟩ := n
  unfold ndC at *
  simp only at *
  by_cases h4 : nk = 4
  · have n4 : (nk == 4) = true := by simp [h4]
    have m5 : (nk == 5) = false := by rw [beq_eq_false_iff_ne]; omega
    by_cases h1 : k = 1
    · have n1 : ((k : Int) == 1) = true := by simp [h1]
      rw [HQ.out (.inl ⟨h4, h1⟩)]
      clear h1 h4
      clear HQ HR
      go_enter Try.func44, Try.ntmps44
      go_upto_region 1 with (fail)
      generalize w.alloc (.cells #[.int .i64 nk, .int .i64 na, .int .i64 nb, .int .i64 nlo, .int .i64 nhi, .int .u64 (wd ncls 0), .int .u64 (wd ncls 1), .int .u64 (wd ncls 2), .int .u64 (wd ncls 3), .string (bs ntext)] 44) = w1 at *
      obtain ⟨f0, f1, f2, f3, f4, f5, f6, f7, f8, f9⟩ := ten_cells HB.out
      go_wp2
      go_ret
      exact ⟨rfl, hal.out⟩
    · have n1 : ((k : Int) == 1) = false := by rw [beq_eq_false_iff_ne]; omega
      rw [HR.out (by omega)]
      clear h1 h4
      clear HQ HR
      go_enter Try.func44, Try.ntmps44
      go_upto_region 1 with (fail)
      generalize w.alloc (.cells #[.int .i64 nk, .int .i64 na, .int .i64 nb, .int .i64 nlo, .int .i64 nhi, .int .u64 (wd ncls 0), .int .u64 (wd ncls 1), .int .u64 (wd ncls 2), .int .u64 (wd ncls 3), .string (bs ntext)] 44) = w1 at *
      obtain ⟨f0, f1, f2, f3, f4, f5, f6, f7, f8, f9⟩ := ten_cells HB.out
      go_wp2
      go_ret
      exact ⟨rfl, hal.out⟩
  · have n4 : (nk == 4) = false := by rw [beq_eq_false_iff_ne]; exact h4
    by_cases h5 : nk = 5
    · have n5 : (nk == 5) = true := by simp [h5]
      by_cases h1 : p = 1
      · have n1 : (p == 1) = true := by simp [h1]
        rw [HQ.out (.inr ⟨h5, h1⟩)]
        clear h1 h4 h5
        clear HQ HR
        go_enter Try.func44, Try.ntmps44
        go_upto_region 1 with (fail)
        generalize w.alloc (.cells #[.int .i64 nk, .int .i64 na, .int .i64 nb, .int .i64 nlo, .int .i64 nhi, .int .u64 (wd ncls 0), .int .u64 (wd ncls 1), .int .u64 (wd ncls 2), .int .u64 (wd ncls 3), .string (bs ntext)] 44) = w1 at *
        obtain ⟨f0, f1, f2, f3, f4, f5, f6, f7, f8, f9⟩ := ten_cells HB.out
        go_wp2
        go_ret
        exact ⟨rfl, hal.out⟩
      · have n1 : (p == 1) = false := by rw [beq_eq_false_iff_ne]; exact h1
        rw [HR.out (by omega)]
        clear h1 h4 h5
        clear HQ HR
        go_enter Try.func44, Try.ntmps44
        go_upto_region 1 with (fail)
        generalize w.alloc (.cells #[.int .i64 nk, .int .i64 na, .int .i64 nb, .int .i64 nlo, .int .i64 nhi, .int .u64 (wd ncls 0), .int .u64 (wd ncls 1), .int .u64 (wd ncls 2), .int .u64 (wd ncls 3), .string (bs ntext)] 44) = w1 at *
        obtain ⟨f0, f1, f2, f3, f4, f5, f6, f7, f8, f9⟩ := ten_cells HB.out
        go_wp2
        go_ret
        exact ⟨rfl, hal.out⟩
    · have n5 : (nk == 5) = false := by rw [beq_eq_false_iff_ne]; exact h5
      rw [HR.out (by omega)]
      clear h4 h5
      clear HQ HR
      go_enter Try.func44, Try.ntmps44
      go_upto_region 1 with (fail)
      generalize w.alloc (.cells #[.int .i64 nk, .int .i64 na, .int .i64 nb, .int .i64 nlo, .int .i64 nhi, .int .u64 (wd ncls 0), .int .u64 (wd ncls 1), .int .u64 (wd ncls 2), .int .u64 (wd ncls 3), .string (bs ntext)] 44) = w1 at *
      obtain ⟨f0, f1, f2, f3, f4, f5, f6, f7, f8, f9⟩ := ten_cells HB.out
      go_wp2
      go_ret
      exact ⟨rfl, hal.out⟩
/-- Are the byte, the text, the pick zero where they tell nothing? -/
def toldP (v : Vl) : Prop := (v.kind = 2 ∨ v.byte = 0) ∧ (v.kind = 3 ∨ v.text = []) ∧ (v.kind = 5 ∨ v.pick = 0)
instance (v : Vl) : Decidable (toldP v) := by unfold toldP; infer_instance
theorem vlBox {w : World} (v : Vl) (B : Option Addr) (c : Nat) : Blk (w.alloc (.cells (vlC v B c) 27)) w.heap.size (vlC v B c) 27 := Blk.new w _ _
set_option maxHeartbeats 16000000 in
theorem vtold_any (v : Vl) (B : Option Addr) (c : Nat) (w : World) : Calls Try.prog 40 #[.agg (vlC v B c)] w (Ans w (.bool (decide (toldP v)))) := by
  have HB := Lib.hid (vlBox (w := w) v B c)
  have hal : Hid (Below w.heap.size w (w.alloc (.cells (vlC v B c) 27))) := (Below.refl _ _).alloc (Nat.le_refl _) _
  have HD : Hid (¬ toldP v → decide (toldP v) = false) := fun h => decide_eq_false h
  have HE : Hid (toldP v → decide (toldP v) = true) := fun h => decide_eq_true h
  generalize decide (toldP v) = r at *
  unfold toldP at HD HE
  obtain ⟨vk, vb, vt, vp, ks⟩ := v
  rw [vlC_five] at *
  simp only at HB hal HD HE ⊢
  by_cases q2 : vk = 2
  · have z2 : (vk == 2) = true := by simp [q2]
    by_cases q3 : vk = 3
    · have z3 : (vk == 3) = true := by simp [q3]
      by_cases q5 : vk = 5
      · have z5 : (vk == 5) = true := by simp [q5]
        rw [HE.out ⟨.inl q2, .inl q3, .inl q5⟩]
        clear q2 q3 q5
        clear HD HE
        go_enter Try.func40, Try.ntmps40
        go_upto_region 1 with (fail)
        generalize w.alloc (.cells #[.int .i64 vk, .int .u8 ((vb.toNat : Nat) : Int), .string (bs vt), .int .i64 vp, .slice B ks.len c] 27) = w1 at *
        obtain ⟨f0, f1, f2, f3, f4⟩ := vl_cells HB.out
        go_wp2
        go_ret
        exact ⟨rfl, hal.out⟩
      · have z5 : (vk == 5) = false := by rw [beq_eq_false_iff_ne]; exact q5
        by_cases r5 : vp = 0
        · have y5 : (vp == 0) = true := by simp [r5]
          rw [HE.out ⟨.inl q2, .inl q3, .inr r5⟩]
          clear q2 q3 q5 r5
          clear HD HE
          go_enter Try.func40, Try.ntmps40
          go_upto_region 1 with (fail)
          generalize w.alloc (.cells #[.int .i64 vk, .int .u8 ((vb.toNat : Nat) : Int), .string (bs vt), .int .i64 vp, .slice B ks.len c] 27) = w1 at *
          obtain ⟨f0, f1, f2, f3, f4⟩ := vl_cells HB.out
          go_wp2
          go_ret
          exact ⟨rfl, hal.out⟩
        · have y5 : (vp == 0) = false := by rw [beq_eq_false_iff_ne]; exact r5
          rw [HD.out (fun h => by rcases h.2.2 with h | h; exact q5 h; exact r5 h)]
          clear q2 q3 q5 r5
          clear HD HE
          go_enter Try.func40, Try.ntmps40
          go_upto_region 1 with (fail)
          generalize w.alloc (.cells #[.int .i64 vk, .int .u8 ((vb.toNat : Nat) : Int), .string (bs vt), .int .i64 vp, .slice B ks.len c] 27) = w1 at *
          obtain ⟨f0, f1, f2, f3, f4⟩ := vl_cells HB.out
          go_wp2
          go_ret
          exact ⟨rfl, hal.out⟩
    · have z3 : (vk == 3) = false := by rw [beq_eq_false_iff_ne]; exact q3
      by_cases r3 : vt = []
      · have y3 : (bs vt == { data := #[] }) = true := by rw [r3]; rfl
        have y3l : (bs vt).toList = [] := by rw [r3, Lib.toList_data, bs_data]
        have y3e : (bs vt).toList.isEmpty = true := by rw [y3l]; rfl
        by_cases q5 : vk = 5
        · have z5 : (vk == 5) = true := by simp [q5]
          rw [HE.out ⟨.inl q2, .inr r3, .inl q5⟩]
          clear q2 q3 q5 r3
          clear HD HE
          go_enter Try.func40, Try.ntmps40
          go_upto_region 1 with (fail)
          generalize w.alloc (.cells #[.int .i64 vk, .int .u8 ((vb.toNat : Nat) : Int), .string (bs vt), .int .i64 vp, .slice B ks.len c] 27) = w1 at *
          obtain ⟨f0, f1, f2, f3, f4⟩ := vl_cells HB.out
          go_wp2
          go_ret
          exact ⟨rfl, hal.out⟩
        · have z5 : (vk == 5) = false := by rw [beq_eq_false_iff_ne]; exact q5
          by_cases r5 : vp = 0
          · have y5 : (vp == 0) = true := by simp [r5]
            rw [HE.out ⟨.inl q2, .inr r3, .inr r5⟩]
            clear q2 q3 q5 r3 r5
            clear HD HE
            go_enter Try.func40, Try.ntmps40
            go_upto_region 1 with (fail)
            generalize w.alloc (.cells #[.int .i64 vk, .int .u8 ((vb.toNat : Nat) : Int), .string (bs vt), .int .i64 vp, .slice B ks.len c] 27) = w1 at *
            obtain ⟨f0, f1, f2, f3, f4⟩ := vl_cells HB.out
            go_wp2
            go_ret
            exact ⟨rfl, hal.out⟩
          · have y5 : (vp == 0) = false := by rw [beq_eq_false_iff_ne]; exact r5
            rw [HD.out (fun h => by rcases h.2.2 with h | h; exact q5 h; exact r5 h)]
            clear q2 q3 q5 r3 r5
            clear HD HE
            go_enter Try.func40, Try.ntmps40
            go_upto_region 1 with (fail)
            generalize w.alloc (.cells #[.int .i64 vk, .int .u8 ((vb.toNat : Nat) : Int), .string (bs vt), .int .i64 vp, .slice B ks.len c] 27) = w1 at *
            obtain ⟨f0, f1, f2, f3, f4⟩ := vl_cells HB.out
            go_wp2
            go_ret
            exact ⟨rfl, hal.out⟩
      · have y3 : (bs vt == { data := #[] }) = false := by rw [← bs_nil, bs_beq, decide_eq_false r3]
        have y3l : ¬ (bs vt).toList = [] := by rw [Lib.toList_data, bs_data]; exact r3
        have y3e : (bs vt).toList.isEmpty = false := by rw [Lib.toList_data, bs_data]; cases vt with | nil => exact absurd rfl r3 | cons => rfl
        rw [HD.out (fun h => by rcases h.2.1 with h | h; exact q3 h; exact r3 h)]
        clear q2 q3 r3
        clear HD HE
        go_enter Try.func40, Try.ntmps40
        go_upto_region 1 with (fail)
        generalize w.alloc (.cells #[.int .i64 vk, .int .u8 ((vb.toNat : Nat) : Int), .string (bs vt), .int .i64 vp, .slice B ks.len c] 27) = w1 at *
        obtain ⟨f0, f1, f2, f3, f4⟩ := vl_cells HB.out
        go_wp2
        go_ret
        exact ⟨rfl, hal.out⟩
  · have z2 : (vk == 2) = false := by rw [beq_eq_false_iff_ne]; exact q2
    by_cases r2 : vb = 0
    · have y2 : (((vb.toNat : Nat) : Int) == 0) = true := by simp [r2]
      by_cases q3 : vk = 3
      · have z3 : (vk == 3) = true := by simp [q3]
        by_cases q5 : vk = 5
        · have z5 : (vk == 5) = true := by simp [q5]
          rw [HE.out ⟨.inr r2, .inl q3, .inl q5⟩]
          clear q2 q3 q5 r2
          clear HD HE
          go_enter Try.func40, Try.ntmps40
          go_upto_region 1 with (fail)
          generalize w.alloc (.cells #[.int .i64 vk, .int .u8 ((vb.toNat : Nat) : Int), .string (bs vt), .int .i64 vp, .slice B ks.len c] 27) = w1 at *
          obtain ⟨f0, f1, f2, f3, f4⟩ := vl_cells HB.out
          go_wp2
          go_ret
          exact ⟨rfl, hal.out⟩
        · have z5 : (vk == 5) = false := by rw [beq_eq_false_iff_ne]; exact q5
          by_cases r5 : vp = 0
          · have y5 : (vp == 0) = true := by simp [r5]
            rw [HE.out ⟨.inr r2, .inl q3, .inr r5⟩]
            clear q2 q3 q5 r2 r5
            clear HD HE
            go_enter Try.func40, Try.ntmps40
            go_upto_region 1 with (fail)
            generalize w.alloc (.cells #[.int .i64 vk, .int .u8 ((vb.toNat : Nat) : Int), .string (bs vt), .int .i64 vp, .slice B ks.len c] 27) = w1 at *
            obtain ⟨f0, f1, f2, f3, f4⟩ := vl_cells HB.out
            go_wp2
            go_ret
            exact ⟨rfl, hal.out⟩
          · have y5 : (vp == 0) = false := by rw [beq_eq_false_iff_ne]; exact r5
            rw [HD.out (fun h => by rcases h.2.2 with h | h; exact q5 h; exact r5 h)]
            clear q2 q3 q5 r2 r5
            clear HD HE
            go_enter Try.func40, Try.ntmps40
            go_upto_region 1 with (fail)
            generalize w.alloc (.cells #[.int .i64 vk, .int .u8 ((vb.toNat : Nat) : Int), .string (bs vt), .int .i64 vp, .slice B ks.len c] 27) = w1 at *
            obtain ⟨f0, f1, f2, f3, f4⟩ := vl_cells HB.out
            go_wp2
            go_ret
            exact ⟨rfl, hal.out⟩
      · have z3 : (vk == 3) = false := by rw [beq_eq_false_iff_ne]; exact q3
        by_cases r3 : vt = []
        · have y3 : (bs vt == { data := #[] }) = true := by rw [r3]; rfl
          have y3l : (bs vt).toList = [] := by rw [r3, Lib.toList_data, bs_data]
          have y3e : (bs vt).toList.isEmpty = true := by rw [y3l]; rfl
          by_cases q5 : vk = 5
          · have z5 : (vk == 5) = true := by simp [q5]
            rw [HE.out ⟨.inr r2, .inr r3, .inl q5⟩]
            clear q2 q3 q5 r2 r3
            clear HD HE
            go_enter Try.func40, Try.ntmps40
            go_upto_region 1 with (fail)
            generalize w.alloc (.cells #[.int .i64 vk, .int .u8 ((vb.toNat : Nat) : Int), .string (bs vt), .int .i64 vp, .slice B ks.len c] 27) = w1 at *
            obtain ⟨f0, f1, f2, f3, f4⟩ := vl_cells HB.out
            go_wp2
            go_ret
            exact ⟨rfl, hal.out⟩
          · have z5 : (vk == 5) = false := by rw [beq_eq_false_iff_ne]; exact q5
            by_cases r5 : vp = 0
            · have y5 : (vp == 0) = true := by simp [r5]
              rw [HE.out ⟨.inr r2, .inr r3, .inr r5⟩]
              clear q2 q3 q5 r2 r3 r5
              clear HD HE
              go_enter Try.func40, Try.ntmps40
              go_upto_region 1 with (fail)
              generalize w.alloc (.cells #[.int .i64 vk, .int .u8 ((vb.toNat : Nat) : Int), .string (bs vt), .int .i64 vp, .slice B ks.len c] 27) = w1 at *
              obtain ⟨f0, f1, f2, f3, f4⟩ := vl_cells HB.out
              go_wp2
              go_ret
              exact ⟨rfl, hal.out⟩
            · have y5 : (vp == 0) = false := by rw [beq_eq_false_iff_ne]; exact r5
              rw [HD.out (fun h => by rcases h.2.2 with h | h; exact q5 h; exact r5 h)]
              clear q2 q3 q5 r2 r3 r5
              clear HD HE
              go_enter Try.func40, Try.ntmps40
              go_upto_region 1 with (fail)
              generalize w.alloc (.cells #[.int .i64 vk, .int .u8 ((vb.toNat : Nat) : Int), .string (bs vt), .int .i64 vp, .slice B ks.len c] 27) = w1 at *
              obtain ⟨f0, f1, f2, f3, f4⟩ := vl_cells HB.out
              go_wp2
              go_ret
              exact ⟨rfl, hal.out⟩
        · have y3 : (bs vt == { data := #[] }) = false := by rw [← bs_nil, bs_beq, decide_eq_false r3]
          have y3l : ¬ (bs vt).toList = [] := by rw [Lib.toList_data, bs_data]; exact r3
          have y3e : (bs vt).toList.isEmpty = false := by rw [Lib.toList_data, bs_data]; cases vt with | nil => exact absurd rfl r3 | cons => rfl
          rw [HD.out (fun h => by rcases h.2.1 with h | h; exact q3 h; exact r3 h)]
          clear q2 q3 r2 r3
          clear HD HE
          go_enter Try.func40, Try.ntmps40
          go_upto_region 1 with (fail)
          generalize w.alloc (.cells #[.int .i64 vk, .int .u8 ((vb.toNat : Nat) : Int), .string (bs vt), .int .i64 vp, .slice B ks.len c] 27) = w1 at *
          obtain ⟨f0, f1, f2, f3, f4⟩ := vl_cells HB.out
          go_wp2
          go_ret
          exact ⟨rfl, hal.out⟩
    · have y2 : (((vb.toNat : Nat) : Int) == 0) = false := by rw [beq_eq_false_iff_ne]; exact fun e => r2 (UInt8.toNat_inj.1 (by simpa using (by omega : vb.toNat = 0)))
      rw [HD.out (fun h => by rcases h.1 with h | h; exact q2 h; exact r2 h)]
      clear q2 r2
      clear HD HE
      go_enter Try.func40, Try.ntmps40
      go_upto_region 1 with (fail)
      generalize w.alloc (.cells #[.int .i64 vk, .int .u8 ((vb.toNat : Nat) : Int), .string (bs vt), .int .i64 vp, .slice B ks.len c] 27) = w1 at *
      obtain ⟨f0, f1, f2, f3, f4⟩ := vl_cells HB.out
      go_wp2
      go_ret
      exact ⟨rfl, hal.out⟩
end Go.Proofs.Ytgdlbahfmddkaaa
