/- Heads of package split, and what the document's package tells two rows by: the same classes, the same bytes. -/
import Derived.Test.YtpbbokdmoaadfaaM17
import Derived.Test.YtpbbokdmoaadfaaM03
import Derived.Test.YtpbbokdmoaadfaaM08
import Derived.Test.YtpbbokdmoaadfaaM09
import Derived.Laws.OwnMore
import Derived.Below
namespace Go.Proofs.Ytpbbokdmoaadfaa
set_option maxHeartbeats 64000000
set_option maxRecDepth 1000000
set_option linter.all false
open Go Go.RowKit
def bytesV (l : List Nat) : List Value := l.map fun c : Nat => Value.int .u8 (c : Int)
def IsBytes (l : List Nat) (v : Value) (w : World) : Prop := ∃ a cap, v = .slice a l.length cap /\ Row8 w a l
theorem Row8.later' {w w' : World} {a : Option Addr} {l : List Nat} (h : Row8 w a l) (hb : Below w.heap.size w w') : Row8 w' a l :=
 ⟨h.1, h.2.1, fun i hi => by
  obtain ⟨b, off, ha, hl, hc⟩ := h.2.2 i hi
  exact ⟨b, off, ha, Nat.lt_of_lt_of_le hl hb.size, (hb.cell (p := ⟨b, off + i, none⟩) hl).trans hc⟩⟩
def Own8 (w : World) (base : Nat) (v : Value) (l : List Nat) : Prop := w.ownsRow base 5 1 v l.length (bytesV l)
theorem Own8.nil (w : World) (base : Nat) : Own8 w base (.slice none 0 0) [] := ⟨rfl, .inl ⟨rfl, rfl⟩⟩
theorem Own8.later {w w' : World} {base : Nat} {v : Value} {l : List Nat} (h : Own8 w base v l) (hb : Below w.heap.size w w') : Own8 w' base v l := ownsRow_later h hb
theorem infoU8 : (Try.prog.info? 5).map (fun i => (i.zero, i.size, i.bytes)) = some (some (.int .u8 0), 1, 1) := by kernel_rfl
def nats (W : List UInt8) : List Nat := W.map UInt8.toNat
theorem nats_length (W : List UInt8) : (nats W).length = W.length := List.length_map _
theorem nats_append (W V : List UInt8) : nats (W ++ V) = nats W ++ nats V := List.map_append
theorem nats_lt (W : List UInt8) : ∀ c ∈ nats W, c < 256 := fun c hc => by
 obtain ⟨x, _, rfl⟩ := List.mem_map.1 hc
 exact x.toNat_lt
theorem bytesV_length (l : List Nat) : (bytesV l).length = l.length := by simp [bytesV]
theorem bytesV_append (l m : List Nat) : bytesV (l ++ m) = bytesV l ++ bytesV m := by simp [bytesV]
theorem bytesV_ones (l : List Nat) (u : Value) (h : u ∈ bytesV l) : u.oneCell' = true := by
 unfold bytesV at h
 obtain ⟨x, _, rfl⟩ := List.mem_map.1 h
 rfl
def IsW (W : List UInt8) (v : Value) (w : World) : Prop := (v = .slice none 0 0 /\ W = []) \/ ∃ b off cap, v = .slice (some ⟨b, off, none⟩) W.length cap /\ W.length <= cap /\ W.length <= 1073741824 /\ b < w.heap.size /\ ∀ i, i < W.length -> w.cell? ⟨b, off + i, none⟩ = some (.int .u8 (((W.getD i 0).toNat : Nat) : Int))
theorem IsW.nil (w : World) : IsW [] (.slice none 0 0) w := .inl ⟨rfl, rfl⟩
theorem IsW.later {W : List UInt8} {v : Value} {w w' : World} (h : IsW W v w) (hb : Below w.heap.size w w') : IsW W v w' := by
 rcases h with h | ⟨b, off, cap, h1, h2, h5, h3, h4⟩
 ·exact .inl h
 ·exact .inr ⟨b, off, cap, h1, h2, h5, Nat.lt_of_lt_of_le h3 hb.size, fun i hi => (hb.cell (p := ⟨b, off + i, none⟩) h3).trans (h4 i hi)⟩
theorem IsW.bytes {W : List UInt8} {v : Value} {w : World} (h : IsW W v w) : IsBytes (nats W) v w := by
 rcases h with ⟨rfl, rfl⟩ | ⟨b, off, cap, rfl, h2, h5, h3, h4⟩
 ·exact ⟨none, 0, rfl, by simp [nats], by simp [nats], fun i hi => by simp [nats] at hi⟩
 ·refine ⟨some ⟨b, off, none⟩, cap, by rw [nats_length], nats_lt W, by rw [nats_length]; omega, fun i hi => ⟨b, off, rfl, h3, ?_⟩⟩
  rw [nats_length] at hi
  rw [h4 i hi]
  unfold nats
  simp [hi]
theorem IsW.len {W : List UInt8} {v : Value} {w : World} (h : IsW W v w) : ∃ A cap, v = .slice A W.length cap /\ W.length <= cap := by
 rcases h with ⟨rfl, rfl⟩ | ⟨b, off, cap, rfl, h2, -⟩
 ·exact ⟨none, 0, rfl, Nat.le_refl _⟩
 ·exact ⟨_, cap, rfl, h2⟩
theorem own_isW {w : World} {base : Nat} {v : Value} {W : List UInt8} (h : Own8 w base v (nats W)) (hm : W.length <= 1073741824) : IsW W v w := by
 obtain ⟨_, ⟨hv, hn⟩ | ⟨g, cap, cur, hv, hb, hg, hc, hm2, hs, ht⟩⟩ := h
 ·rw [nats_length] at hn
  exact .inl ⟨hv, List.length_eq_zero_iff.1 hn⟩
 ·rw [nats_length] at hv hc ht
  refine .inr ⟨g, 0, cap, hv, hc, hm, Blk.lt (w := w) (b := g) (vs := cur) (t := 5) hg, fun i hi => ?_⟩
  rw [Blk.cell (w := w) (b := g) (vs := cur) (t := 5) hg]
  have : (bytesV (nats W))[i]? = some (.int .u8 (((W.getD i 0).toNat : Nat) : Int)) := by unfold bytesV nats; simp [hi]
  rw [<- this, <- ht, List.getElem?_take, if_pos (by omega)]
  simp
theorem own_new {w : World} {W : List UInt8} {cs : Array Value} (hc : cs.toList = bytesV (nats W)) (hm : W.length <= 1000) : Own8 (w.alloc (.cells cs 5)) w.heap.size (.slice (some ⟨w.heap.size, 0, none⟩) W.length W.length) (nats W) := by
 have hs : cs.size = W.length := by rw [<- Array.length_toList, hc, bytesV_length, nats_length]
 refine ⟨by rw [bytesV_length, Nat.mul_one], .inr ⟨w.heap.size, W.length, cs, by rw [nats_length], Nat.le_refl _, Blk.new w _ _, by rw [nats_length]; exact Nat.le_refl _, by unfold maxLen; omega, by rw [hs, Nat.mul_one], ?_⟩⟩
 rw [List.take_of_length_le (by rw [hc, bytesV_length, Nat.mul_one]; exact Nat.le_refl _), hc]
theorem wp_append_w {w : World} {o : Oper} {a : Act} {K : Act -> World -> Prop} {Q : Exit -> Act -> World -> Prop} (s x : Operand)
 (ho : o.op = .call { callee := .builtin .append, args := #[s, x], argTypes := #[25, 25] })
 (base : Nat) (v : Value) (W : List UInt8) (hs : a.eval s = v) (hown : Own8 w base v (nats W))
 (V : List UInt8) (u : Value) (hx : a.eval x = u) (hV : IsW V u w) (hlen : W.length + V.length < 1073741824) (hbase : base <= w.heap.size)
 (h : ∀ v' w', Own8 w' base v' (nats (W ++ V)) -> w.grownBy w' v.ownBlock -> K (a.put o.dst v') w') : o.wp Try.prog a w K Q := by
 obtain ⟨ib, hib, hz0, hz1, hz2⟩ := info_parts infoU8
 rcases hV with ⟨rfl, rfl⟩ | ⟨b, off, cap, rfl, hcap, h5, hlt, hc⟩
 ·have hr := run_append_owned_none (P := Try.prog) (w := w) base 25 o.type 5 ib 1 Try.underlying25 hib v _ _ hown
  unfold Oper.wp execOp
  simp only [ho, resolve, invoke, builtin, Sem.run_bind, Sem.run_pure, Result.andThen_ok, List.map_toArray, List.map_cons, List.map_nil, hs, hx, hr]
  exact h v w (by rw [List.append_nil]; exact hown) (World.grownBy.refl _ _)
 ·have hnews : ∀ (j : Nat) (u : Value), (bytesV (nats V))[j]? = some u -> w.cell? ((⟨b, off, none⟩ : Addr).add j) = some u := by
   intro j u hu
   have hj : j < V.length := by rw [<- nats_length, <- bytesV_length]; exact (List.getElem?_eq_some_iff.1 hu).1
   have hadd : (⟨b, off, none⟩ : Addr).add j = ⟨b, off + j, none⟩ := by unfold Addr.add; split <;> simp_all
   rw [hadd, hc j hj, <- hu]
   unfold bytesV nats
   simp [hj]
  have hown0 : w.ownsRow base 5 1 v (nats W).length (bytesV (nats W)) := hown
  obtain ⟨v', w', hr, h2, h3, _⟩ := run_append_own (P := Try.prog) w base 25 o.type 5 ib _ 1 1 Try.underlying25 hib hz0 hz1 hz2 rfl (by decide) v (nats W).length (bytesV (nats W)) hown0 ⟨b, off, none⟩ V.length cap (bytesV (nats V)) (by rw [bytesV_length, nats_length, Nat.mul_one]) hnews (bytesV_ones _) (by rw [nats_length]; unfold maxLen; omega) (by rw [nats_length]; omega) hbase
  unfold Oper.wp execOp
  simp only [ho, resolve, invoke, builtin, Sem.run_bind, Sem.run_pure, Result.andThen_ok, List.map_toArray, List.map_cons, List.map_nil, hs, hx, hr]
  exact h v' w' (by unfold Own8; rw [nats_append, bytesV_append, List.length_append, nats_length V]; exact h2) h3
theorem wpList_append_w {w : World} {ops : Array Oper} {rest : List Oper} {o : Oper} {a : Act} {Q : Exit -> Act -> World -> Prop} (hgd : o.guard = none) (s x : Operand)
 (ho : o.op = .call { callee := .builtin .append, args := #[s, x], argTypes := #[25, 25] })
 (base : Nat) (v : Value) (W : List UInt8) (hs : a.eval s = v) (hown : Own8 w base v (nats W))
 (V : List UInt8) (u : Value) (hx : a.eval x = u) (hV : IsW V u w) (hlen : W.length + V.length < 1073741824) (hbase : base <= w.heap.size)
 (h : ∀ v' w', Own8 w' base v' (nats (W ++ V)) -> w.grownBy w' v.ownBlock -> wpList Try.prog ops Q rest (a.put o.dst v') w') : wpList Try.prog ops Q (o :: rest) a w :=
 wpList_plain hgd fun K hK => wp_append_w s x ho base v W hs hown V u hx hV hlen hbase fun v' w' h1 h2 => hK _ _ (h v' w' h1 h2)
end Go.Proofs.Ytpbbokdmoaadfaa
namespace Go.Proofs.Ytpbbokdmoaadfaa
set_option maxHeartbeats 64000000
set_option maxRecDepth 1000000
set_option linter.all false
open Go Go.RowKit Go.ChangeShapes Go.WideShapes Go.ChangeAt Go.Joins
theorem wd_byte {a : Int} (h : (Lit.int .u8 a).wf = true) : ∃ n : Nat, a = n /\ n < 256 := by
 have : 0 <= a /\ a <= 255 := by simpa [Lit.wf, IntKind.min, IntKind.max, IntKind.signed, IntKind.bits] using h
 exact ⟨a.toNat, by omega, by omega⟩
def WdA (w : World) (A : Option Addr) (C : Nat) (W : List UInt8) : Prop := W.length <= C /\ (W.length <= 1073741824 -> IsW W (.slice A W.length C) w)
section
variable {H : Type} {enc : TypeId × Value -> H} {W : World} {base : Nat} {v : Value} {d : DataW H} {p : List MemPlace}
theorem open_wd (hv : Value.okWide Try.prog W .any base 25 v) (h : DataW.Trod enc Try.prog W 0 (fun _ => true) true 25 v d p) :
 ∃ (l : List UInt8) (A : Option Addr) (C : Nat), v = .slice A l.length C /\ WdA W A C l /\ l.length <= 9223372036854775807 := by
 have hv0 := hv
 obtain ⟨a0, len, cap, rfl⟩ := okWide_slice Try.underlying25 hv
 obtain ⟨fuel, hf⟩ := h
 rcases open_ints Try.underlying25 Try.underlying5 (by kernel_rfl) hf with ⟨hcs, _⟩ | ⟨x, l, c, zs, hcs, _, hl, hm, hz, _, hcell, hwz⟩
 ·simp [Value.cells] at hcs
  obtain ⟨rfl, rfl, rfl⟩ := hcs
  exact ⟨[], none, 0, rfl, ⟨Nat.le_refl _, fun _ => .inl ⟨rfl, rfl⟩⟩, by simp⟩
 ·simp [Value.cells] at hcs
  obtain ⟨rfl, rfl, rfl⟩ := hcs
  have hz' : zs.length = cap := by simpa using hz
  unfold maxLen at hm
  have hm2 : zs.length <= 9223372036854775807 := by omega
  obtain ⟨b, off, spot⟩ := x
  have hh : spot = none /\ b < W.heap.size := by
   simp only [Value.okWide, Try.underlying25, Cell.okWide, Cell.ok, World.has] at hv0
   obtain ⟨-, -, -, h2, row, cells, h3, -⟩ := hv0
   refine ⟨h2, ?_⟩
   apply Classical.byContradiction
   intro hlt
   have : W.heap[b]? = none := Array.getElem?_eq_none (by omega)
   simp [World.shape?, this] at h3
  obtain ⟨rfl, hblt⟩ := hh
  have hlen : ((zs.take len).map fun z => UInt8.ofNat z.toNat).length = len := by simp; omega
  refine ⟨(zs.take len).map fun z => UInt8.ofNat z.toNat, some ⟨b, off, none⟩, cap, by rw [hlen], ⟨by rw [hlen]; exact hl, fun hs => .inr ⟨b, off, cap, rfl, by rw [hlen]; exact hl, hs, hblt, fun i hi => ?_⟩⟩, by rw [hlen]; omega⟩
  rw [hlen] at hi
  have hc := hcell i (by omega)
  have h1 : i < zs.length := by omega
  have hz1 : zs.getD i 0 ∈ zs := by rw [List.getD_eq_getElem?_getD, List.getElem?_eq_getElem h1]; exact List.getElem_mem _
  obtain ⟨n, hn1, hn2⟩ := wd_byte (hwz _ hz1)
  have ha : (⟨b, off, none⟩ : Addr).add i = ⟨b, off + i, none⟩ := by
   cases i with
   | zero => simp [Addr.add]
   | succ i => simp [Addr.add]
  rw [ha] at hc
  rw [hc]
  have hg : ((zs.take len).map fun z => UInt8.ofNat z.toNat).getD i 0 = UInt8.ofNat n := by
   rw [List.getD_eq_getElem?_getD, List.getElem?_map, List.getElem?_take, if_pos hi]
   rw [List.getD_eq_getElem?_getD] at hn1
   rw [List.getElem?_eq_getElem h1] at hn1 ⊢
   simp at hn1 ⊢
   rw [hn1]; rfl
  rw [hg, hn1]
  have : (UInt8.ofNat n).toNat = n := by simp; omega
  rw [this]
end
end Go.Proofs.Ytpbbokdmoaadfaa
namespace Go.Proofs.Ytpbbokdmoaadfaa
set_option maxHeartbeats 64000000
set_option maxRecDepth 1000000
set_option linter.all false
open Go
def plF : Nat -> (Nat -> Nat) -> List (Nat × Nat)
 | 0, _ => []
 | n + 1, F => plF n F ++ if F n = 0 then [] else [(n, F n)]
theorem plF_succ {n : Nat} {F : Nat -> Nat} : plF (n + 1) F = plF n F ++ if F n = 0 then [] else [(n, F n)] := rfl
theorem plF_congr {F G : Nat -> Nat} : ∀ {n : Nat}, (∀ b, b < n -> F b = G b) -> plF n F = plF n G
 | 0, _ => rfl
 | n + 1, h => by rw [plF_succ, plF_succ, plF_congr fun b hb => h b (by omega), h n (by omega)]
theorem mem_plF {F : Nat -> Nat} {p : Nat × Nat} : ∀ {n : Nat}, p ∈ plF n F ↔ p.1 < n /\ F p.1 = p.2 /\ p.2 ≠ 0
 | 0 => by simp [plF]
 | n + 1 => by
  rw [plF_succ, List.mem_append, mem_plF]
  constructor
  ·rintro (h | h)
   ·exact ⟨by omega, h.2⟩
   ·split at h
    ·cases h
    ·obtain rfl := List.mem_singleton.1 h
     rename_i h0
     exact ⟨by simp, rfl, h0⟩
  ·rintro ⟨h1, h2, h3⟩
   by_cases e : p.1 = n
   ·right
    rw [<- e, if_neg (by omega), List.mem_singleton, h2]
   ·exact .inl ⟨by omega, h2, h3⟩
theorem plF_fst {F : Nat -> Nat} {n : Nat} {p : Nat × Nat} (h : p ∈ plF n F) : p = (p.1, F p.1) := by
 have := (mem_plF.1 h).2.1
 rw [this]
theorem plF_length {F : Nat -> Nat} : ∀ {n : Nat}, (plF n F).length <= n
 | 0 => Nat.le_refl _
 | n + 1 => by
  have := plF_length (F := F) (n := n)
  rw [plF_succ, List.length_append]; split <;> simp <;> omega
theorem plF_rise {F : Nat -> Nat} : ∀ {n : Nat}, (plF n F).Pairwise fun p q => p.1 < q.1
 | 0 => List.Pairwise.nil
 | n + 1 => by
  rw [plF_succ, List.pairwise_append]
  refine ⟨plF_rise, by split <;> simp, fun p hp q hq => ?_⟩
  split at hq
  ·cases hq
  ·obtain rfl := List.mem_singleton.1 hq
   exact (mem_plF.1 hp).1
theorem rise_eq {L M : List (Nat × Nat)} (hL : L.Pairwise fun p q => p.1 < q.1) (hM : M.Pairwise fun p q => p.1 < q.1) (h : ∀ p, p ∈ L ↔ p ∈ M) : L = M := by
 induction L generalizing M with
 | nil =>
  cases M with
  | nil => rfl
  | cons q M => exact absurd ((h q).2 (by simp)) (by simp)
 | cons p L ih =>
  cases M with
  | nil => exact absurd ((h p).1 (by simp)) (by simp)
  | cons q M =>
   have hp := List.pairwise_cons.1 hL
   have hq := List.pairwise_cons.1 hM
   have e : p = q := by
    rcases List.mem_cons.1 ((h p).1 (by simp)) with e | e
    ·exact e
    ·rcases List.mem_cons.1 ((h q).2 (by simp)) with e' | e'
     ·exact e'.symm
     ·have := hq.1 p e; have := hp.1 q e'; omega
   subst e
   congr 1
   refine ih hp.2 hq.2 fun x => ?_
   constructor
   ·intro hx
    rcases List.mem_cons.1 ((h x).1 (List.mem_cons_of_mem _ hx)) with e | e
    ·subst e; exact absurd (hp.1 _ hx) (by omega)
    ·exact e
   ·intro hx
    rcases List.mem_cons.1 ((h x).2 (List.mem_cons_of_mem _ hx)) with e | e
    ·subst e; exact absurd (hq.1 _ hx) (by omega)
    ·exact e
theorem plF_of {F : Nat -> Nat} {n : Nat} {L : List (Nat × Nat)} (hL : L.Pairwise fun p q => p.1 < q.1) (h : ∀ p, p ∈ L ↔ p.1 < n /\ F p.1 = p.2 /\ p.2 ≠ 0) : L = plF n F :=
 rise_eq hL plF_rise fun p => by rw [h, mem_plF]
theorem plF_up {F : Nat -> Nat} {n : Nat} : ∀ {k : Nat}, (∀ b, n <= b -> b < n + k -> F b = 0) -> plF (n + k) F = plF n F
 | 0, _ => rfl
 | k + 1, h => by
  rw [<- Nat.add_assoc, plF_succ, plF_up fun b h1 h2 => h b h1 (by omega), if_pos (h _ (by omega) (by omega)), List.append_nil]
theorem plF_nil {F : Nat -> Nat} {n : Nat} (h : ∀ b, b < n -> F b = 0) : plF n F = [] := by
 have := plF_up (F := F) (n := 0) (k := n) (fun b _ hb => h b (by omega))
 rwa [Nat.zero_add] at this
theorem plF_eq {F : Nat -> Nat} {n m : Nat} (h : ∀ b, n <= b \/ m <= b -> b < n \/ b < m -> F b = 0) : plF n F = plF m F := by
 rcases Nat.le_total n m with hnm | hnm
 ·obtain ⟨k, rfl⟩ := Nat.le.dest hnm
  exact (plF_up fun b h1 h2 => h b (.inl h1) (.inr h2)).symm
 ·obtain ⟨k, rfl⟩ := Nat.le.dest hnm
  exact plF_up fun b h1 h2 => h b (.inr h1) (.inl h2)
theorem plF_one {n a v : Nat} (ha : a < n) (hv : v ≠ 0) : plF n (fun b => if b = a then v else 0) = [(a, v)] := by
 symm
 refine plF_of (List.pairwise_singleton _ _) fun p => ?_
 rw [List.mem_singleton]
 constructor
 ·rintro rfl; exact ⟨ha, by simp, hv⟩
 ·rintro ⟨h1, h2, h3⟩
  by_cases e : p.1 = a
  ·rw [if_pos e] at h2; rw [<- e, h2]
  ·rw [if_neg e] at h2; omega
theorem plF_empty {F : Nat -> Nat} {n : Nat} (h : plF n F = []) : ∀ b, b < n -> F b = 0 := fun b hb => by
 rcases Nat.eq_zero_or_pos (F b) with h0 | h0
 ·exact h0
 ·have : (b, F b) ∈ plF n F := mem_plF.2 ⟨hb, rfl, by show F b ≠ 0; omega⟩
  rw [h] at this; cases this
def sumAt : List (Nat × Nat) -> Nat -> Nat
 | [], _ => 0
 | p :: L, b => (if p.1 = b then p.2 else 0) + sumAt L b
theorem sumAt_append {b : Nat} : ∀ {L M : List (Nat × Nat)}, sumAt (L ++ M) b = sumAt L b + sumAt M b
 | [], M => by rw [List.nil_append]; show _ = 0 + _; omega
 | p :: L, M => by rw [List.cons_append]; show _ + sumAt (L ++ M) b = _ + sumAt L b + _; rw [sumAt_append]; omega
theorem sumAt_out {b : Nat} : ∀ {L : List (Nat × Nat)}, (∀ p ∈ L, p.1 ≠ b) -> sumAt L b = 0
 | [], _ => rfl
 | p :: L, h => by unfold sumAt; rw [if_neg (h p (by simp)), sumAt_out fun q hq => h q (List.mem_cons_of_mem _ hq)]
theorem sumAt_plF {F : Nat -> Nat} {b : Nat} : ∀ {n : Nat}, sumAt (plF n F) b = if b < n then F b else 0
 | 0 => by simp [plF, sumAt]
 | n + 1 => by
  rw [plF_succ, sumAt_append, sumAt_plF]
  by_cases e : b = n
  ·subst e
   rw [if_neg (by omega), if_pos (show b < b + 1 by omega)]
   by_cases h0 : F b = 0
   ·rw [if_pos h0, h0]; rfl
   ·rw [if_neg h0]; simp [sumAt]
  ·have : sumAt (if F n = 0 then [] else [(n, F n)]) b = 0 := sumAt_out fun p hp => by
    split at hp
    ·cases hp
    ·obtain rfl := List.mem_singleton.1 hp; exact fun h => e h.symm
   rw [this]
   by_cases h : b < n
   ·rw [if_pos h, if_pos (show b < n + 1 by omega)]; rfl
   ·rw [if_neg h, if_neg (show ¬ b < n + 1 by omega)]
def thrL (L : List (Nat × Nat)) (R : Nat -> Nat -> Nat) (b : Nat) : Nat := (L.map fun p => p.2 * R p.1 b).sum
theorem thrL_plF {F : Nat -> Nat} {R : Nat -> Nat -> Nat} {b : Nat} : ∀ {n : Nat}, thrL (plF n F) R b = ((List.range n).map fun j => F j * R j b).sum
 | 0 => rfl
 | n + 1 => by
  have ih := thrL_plF (F := F) (R := R) (b := b) (n := n)
  unfold thrL at ih ⊢
  rw [plF_succ, List.map_append, List.sum_append, ih, List.range_succ, List.map_append, List.sum_append]
  split
  ·rename_i h; simp [h]
  ·simp
def tyF (first : Nat) (S : List UInt8) (b : Nat) : Nat := if first <= b then (S.getD (b - first) 0).toNat else 0
def tyAdd (first : Nat) (S : List UInt8) (a x : Nat) : List UInt8 := (S ++ List.replicate (a - first + 1 - S.length) 0).set (a - first) (UInt8.ofNat (min 2 (tyF first S a + x)))
theorem getD_zeros {S : List UInt8} {k j : Nat} : (S ++ List.replicate k 0).getD j 0 = S.getD j 0 := by
 rw [List.getD_eq_getElem?_getD, List.getD_eq_getElem?_getD]
 rcases Nat.lt_or_ge j S.length with h | h
 ·rw [List.getElem?_append_left h]
 ·rw [List.getElem?_append_right h, List.getElem?_eq_none (l := S) h, List.getElem?_replicate]
  split <;> rfl
theorem tyAdd_length {first a x : Nat} {S : List UInt8} : (tyAdd first S a x).length = max S.length (a - first + 1) := by
 unfold tyAdd; rw [List.length_set, List.length_append, List.length_replicate]; omega
theorem tyF_add {first a x b : Nat} {S : List UInt8} (ha : first <= a) : tyF first (tyAdd first S a x) b = if b = a then min 2 (tyF first S b + x) else tyF first S b := by
 have hl : a - first < (S ++ List.replicate (a - first + 1 - S.length) (0 : UInt8)).length := by rw [List.length_append, List.length_replicate]; omega
 by_cases e : b = a
 ·subst e
  rw [if_pos rfl]
  conv => lhs; unfold tyF tyAdd
  rw [if_pos ha, List.getD_eq_getElem?_getD, List.getElem?_set_self hl]
  show (UInt8.ofNat _).toNat = _
  rw [UInt8.toNat_ofNat']
  omega
 ·rw [if_neg e]
  unfold tyF tyAdd
  by_cases h : first <= b
  ·rw [if_pos h, if_pos h, List.getD_eq_getElem?_getD, List.getElem?_set_ne (by omega), <- List.getD_eq_getElem?_getD, getD_zeros]
  ·rw [if_neg h, if_neg h]
theorem tyF_out {first b : Nat} {S : List UInt8} (h : first + S.length <= b) : tyF first S b = 0 := by
 unfold tyF
 split
 ·rw [List.getD_eq_getElem?_getD, List.getElem?_eq_none (by omega)]; rfl
 ·rfl
theorem tyF_nil {first b : Nat} : tyF first [] b = 0 := by unfold tyF; split <;> rfl
theorem tyF_below {first b : Nat} {S : List UInt8} (h : b < first) : tyF first S b = 0 := by unfold tyF; rw [if_neg (by omega)]
theorem tyF_at {first k : Nat} {S : List UInt8} : tyF first S (first + k) = (S.getD k 0).toNat := by unfold tyF; rw [if_pos (by omega), Nat.add_sub_cancel_left]
def tyAll (first : Nat) : List UInt8 -> List (Nat × Nat) -> List UInt8
 | S, [] => S
 | S, p :: L => tyAll first (if p.2 = 0 then S else tyAdd first S p.1 p.2) L
theorem tyAll_snoc {first : Nat} : ∀ {L : List (Nat × Nat)} {S : List UInt8} {p : Nat × Nat}, tyAll first S (L ++ [p]) = if p.2 = 0 then tyAll first S L else tyAdd first (tyAll first S L) p.1 p.2
 | [], S, p => rfl
 | q :: L, S, p => by
  rw [List.cons_append]
  show tyAll first _ (L ++ [p]) = _
  rw [tyAll_snoc]; rfl
theorem tyF_all {first b : Nat} : ∀ {L : List (Nat × Nat)} {S : List UInt8}, (∀ p ∈ L, first <= p.1) -> tyF first S b <= 2 -> tyF first (tyAll first S L) b = min 2 (tyF first S b + sumAt L b)
 | [], S, _, h => by show tyF first S b = min 2 (_ + 0); omega
 | p :: L, S, hp, h => by
  show tyF first (tyAll first _ L) b = min 2 (_ + ((if p.1 = b then p.2 else 0) + sumAt L b))
  have h1 := hp p (by simp)
  by_cases h0 : p.2 = 0
  ·rw [if_pos h0, tyF_all (fun q hq => hp q (List.mem_cons_of_mem _ hq)) h, h0]
   split <;> omega
  ·rw [if_neg h0, tyF_all (fun q hq => hp q (List.mem_cons_of_mem _ hq))]
   ·rw [tyF_add h1]
    by_cases e : b = p.1
    ·rw [if_pos e, if_pos e.symm]; omega
    ·rw [if_neg e, if_neg (fun h => e h.symm)]; omega
   ·rw [tyF_add h1]; split <;> omega
theorem tyAdd_reach {first a x n : Nat} {S : List UInt8} (hS : first + S.length <= n) (h1 : first <= a) (h2 : a < n) : first + (tyAdd first S a x).length <= n := by rw [tyAdd_length]; omega
theorem tyAll_reach {first n : Nat} : ∀ {L : List (Nat × Nat)} {S : List UInt8}, first + S.length <= n -> (∀ p ∈ L, first <= p.1 /\ p.1 < n) -> first + (tyAll first S L).length <= n
 | [], S, h, _ => h
 | p :: L, S, h, hp => by
  show first + (tyAll first _ L).length <= n
  have := hp p (by simp)
  refine tyAll_reach ?_ fun q hq => hp q (List.mem_cons_of_mem _ hq)
  split
  ·exact h
  ·exact tyAdd_reach h this.1 this.2
theorem plF_ty_zero {first : Nat} {S : List UInt8} : plF first (tyF first S) = [] := plF_nil fun b hb => tyF_below hb
theorem plF_ty_step {first k : Nat} {S : List UInt8} : plF (first + (k + 1)) (tyF first S) = plF (first + k) (tyF first S) ++ if (S.getD k 0).toNat = 0 then [] else [(first + k, (S.getD k 0).toNat)] := by
 rw [<- Nat.add_assoc, plF_succ, tyF_at]
theorem plF_ty_end {first n : Nat} {S : List UInt8} (h : first + S.length <= n) : plF (first + S.length) (tyF first S) = plF n (tyF first S) := plF_eq fun b h1 h2 => tyF_out (by omega)
theorem plF_all {first n : Nat} {L : List (Nat × Nat)} {F : Nat -> Nat} (h : ∀ p ∈ L, first <= p.1 /\ p.1 < n) (hF : ∀ b, b < n -> F b = min 2 (sumAt L b)) : plF (first + (tyAll first [] L).length) (tyF first (tyAll first [] L)) = plF n F := by
 have hr : first + (tyAll first [] L).length <= n \/ L = [] := by
  cases L with
  | nil => exact .inr rfl
  | cons p L =>
   have := h p (by simp)
   exact .inl (tyAll_reach (by simp; omega) h)
 rcases hr with hr | hr
 ·rw [plF_ty_end hr]
  refine plF_congr fun b hb => ?_
  rw [tyF_all (fun p hp => (h p hp).1) (by rw [tyF_nil]; omega), tyF_nil, hF b hb, Nat.zero_add]
 ·subst hr
  rw [plF_nil (n := n) fun b hb => by rw [hF b hb]; rfl]
  exact plF_nil fun b _ => tyF_nil
end Go.Proofs.Ytpbbokdmoaadfaa
namespace Go.Proofs.Ytpbbokdmoaadfaa
set_option maxHeartbeats 64000000
set_option maxRecDepth 1000000
set_option linter.all false
open Go Go.RowKit
def rcC (p : Nat × Nat) : Array Value := #[.int .i64 (p.1 : Int), .int .i64 (p.2 : Int)]
def flatR : List (Nat × Nat) -> List Value
 | [] => []
 | t :: l => (rcC t).toList ++ flatR l
theorem rcC_size (t : Nat × Nat) : (rcC t).toList.length = 2 := rfl
theorem flatR_length : ∀ l, (flatR l).length = l.length * 2
 | [] => rfl
 | t :: l => by rw [flatR, List.length_append, flatR_length l, rcC_size, List.length_cons]; omega
theorem flatR_append : ∀ l m, flatR (l ++ m) = flatR l ++ flatR m
 | [], m => rfl
 | t :: l, m => by show (rcC t).toList ++ flatR (l ++ m) = _; rw [flatR_append l m, flatR, List.append_assoc]
theorem flatR_get : ∀ (l : List (Nat × Nat)) (i j : Nat), i < l.length -> j < 2 -> (flatR l)[i * 2 + j]? = (rcC (l.getD i (0, 0)))[j]?
 | [], i, j, h, _ => by simp at h
 | s :: l, 0, j, _, hj => by
  rw [flatR, List.getElem?_append_left (by rw [rcC_size]; omega)]
  simp
 | s :: l, i + 1, j, hi, hj => by
  have ih := flatR_get l i j (by simpa using hi) hj
  show ((rcC s).toList ++ flatR l)[(i + 1) * 2 + j]? = _
  rw [List.getElem?_append_right (by rw [rcC_size]; omega), rcC_size, show (i + 1) * 2 + j - 2 = i * 2 + j by omega, ih]
  simp
theorem flatR_ones : ∀ (l : List (Nat × Nat)) (u : Value), u ∈ flatR l -> u.oneCell' = true
 | [], u, h => by cases h
 | t :: l, u, h => by
  rw [flatR, List.mem_append] at h
  rcases h with h | h
  ·simp [rcC] at h
   rcases h with rfl | rfl <;> rfl
  ·exact flatR_ones l u h
def RcRow (w : World) (a : Option Addr) (l : List (Nat × Nat)) : Prop :=
 l ≠ [] -> ∃ b off cur, a = some ⟨b, off, none⟩ /\ Blk w b cur 92 /\ ∀ i, i < l.length -> ∀ j, j < 2 -> cur[off + i * 2 + j]? = (rcC (l.getD i (0, 0)))[j]?
theorem RcRow.nil (w : World) (a : Option Addr) : RcRow w a [] := fun h => absurd rfl h
theorem RcRow.keep {w w' : World} {a : Option Addr} {l : List (Nat × Nat)} (h : RcRow w a l) (hk : ∀ b cur, Blk w b cur 92 -> Blk w' b cur 92) : RcRow w' a l := fun hl => by
 obtain ⟨b, off, cur, h1, h2, h3⟩ := h hl
 exact ⟨b, off, cur, h1, hk _ _ h2, h3⟩
theorem RcRow.later {w w' : World} {a : Option Addr} {l : List (Nat × Nat)} (h : RcRow w a l) (hb : Below w.heap.size w w') : RcRow w' a l := h.keep fun _ _ k => k.later hb
theorem RcRow.two {w : World} {a : Option Addr} {l : List (Nat × Nat)} (h : RcRow w a l) (hl : l ≠ []) : ∃ b off, a = some ⟨b, off, none⟩ /\ b < w.heap.size /\ ∀ i, i < l.length -> w.cell? ⟨b, off + i * 2, none⟩ = some (.int .i64 ((l.getD i (0, 0)).1 : Int)) /\ w.cell? ⟨b, off + i * 2 + 1, none⟩ = some (.int .i64 ((l.getD i (0, 0)).2 : Int)) := by
 obtain ⟨b, off, cur, h1, h2, h3⟩ := h hl
 refine ⟨b, off, h1, h2.lt, fun i hi => ⟨?_, ?_⟩⟩
 ·rw [h2.cell]; exact h3 i hi 0 (by decide)
 ·rw [h2.cell]; exact h3 i hi 1 (by decide)
def IsR (w : World) (v : Value) (l : List (Nat × Nat)) : Prop := ∃ A c, v = .slice A l.length c /\ l.length <= c /\ RcRow w A l
theorem IsR.later {w w' : World} {v : Value} {l : List (Nat × Nat)} (h : IsR w v l) (hb : Below w.heap.size w w') : IsR w' v l := by
 obtain ⟨A, c, h1, h2, h3⟩ := h
 exact ⟨A, c, h1, h2, h3.later hb⟩
theorem IsR.none (w : World) : IsR w (.slice none 0 0) [] := ⟨_, _, rfl, Nat.le_refl _, RcRow.nil _ _⟩
theorem RcRow.one {w : World} {b : Nat} {p : Nat × Nat} (h : Blk w b (rcC p) 92) : RcRow w (some ⟨b, 0, none⟩) [p] := fun _ => ⟨b, 0, _, rfl, h, fun i hi j hj => by
 have hi : i < 1 := hi
 obtain rfl : i = 0 := by omega
 simp⟩
def OwnR (w : World) (base : Nat) (v : Value) (l : List (Nat × Nat)) : Prop := w.ownsRow base 92 2 v l.length (flatR l)
theorem OwnR.later {w w' : World} {base : Nat} {v : Value} {l : List (Nat × Nat)} (h : OwnR w base v l) (hb : Below w.heap.size w w') : OwnR w' base v l := ownsRow_later h hb
theorem OwnR.nil (w : World) (base : Nat) : OwnR w base (.slice none 0 0) [] := ⟨by simp [flatR], .inl ⟨rfl, rfl⟩⟩
theorem OwnR.isR {w : World} {base : Nat} {v : Value} {l : List (Nat × Nat)} (h : OwnR w base v l) : IsR w v l := by
 obtain ⟨_, ⟨hv, hn⟩ | ⟨g, cap, cur, hv, hb, hg, hc, hm, hs, ht⟩⟩ := h
 ·have : l = [] := List.length_eq_zero_iff.1 hn
  subst this
  exact ⟨none, 0, hv, Nat.le_refl _, RcRow.nil w none⟩
 ·refine ⟨_, cap, hv, hc, fun _ => ⟨g, 0, cur, rfl, hg, fun i hi j hj => ?_⟩⟩
  rw [<- flatR_get l i j hi hj, <- ht, List.getElem?_take, if_pos (by omega)]
  simp
theorem infoRc : (Try.prog.info? 92).map (fun i => (i.zero, i.size, i.bytes)) = some (some (.agg #[.int .i64 0, .int .i64 0]), 2, 16) := by kernel_rfl
theorem rc_news {w : World} {b : Nat} {p : Nat × Nat} (h : Blk w b (rcC p) 92) : ∀ (j : Nat) (u : Value), (flatR [p])[j]? = some u -> w.cell? ((⟨b, 0, none⟩ : Addr).add j) = some u := by
 intro j u hu
 have hadd : (⟨b, 0, none⟩ : Addr).add j = ⟨b, j, none⟩ := by unfold Addr.add; split <;> simp_all
 rw [hadd, h.cell, <- hu]
 simp [flatR]
theorem wp_append_rc {w : World} {o : Oper} {a : Act} {K : Act -> World -> Prop} {Q : Exit -> Act -> World -> Prop} (s x : Operand)
 (ho : o.op = .call { callee := .builtin .append, args := #[s, x], argTypes := #[78, 78] })
 (base : Nat) (v : Value) (l : List (Nat × Nat)) (hs : a.eval s = v) (hown : OwnR w base v l)
 (b : Nat) (p : Nat × Nat) (hx : a.eval x = .slice (some ⟨b, 0, none⟩) 1 1) (hnew : Blk w b (rcC p) 92) (hlen : l.length < 1073741824) (hbase : base <= w.heap.size)
 (h : ∀ v' w', OwnR w' base v' (l ++ [p]) -> w.grownBy w' v.ownBlock -> K (a.put o.dst v') w') : o.wp Try.prog a w K Q := by
 obtain ⟨ib, hib, hz0, hz1, hz2⟩ := info_parts infoRc
 obtain ⟨v', w', hr, h2, h3, _⟩ := run_append_own (P := Try.prog) w base 78 o.type 92 ib _ 2 16 Try.underlying78 hib hz0 hz1 hz2 rfl (by decide) v l.length (flatR l) hown ⟨b, 0, none⟩ 1 1 (flatR [p]) (by rw [flatR_length]; rfl) (rc_news hnew) (flatR_ones [p]) (by unfold maxLen; omega) (by omega) hbase
 unfold Oper.wp execOp
 simp only [ho, resolve, invoke, builtin, Sem.run_bind, Sem.run_pure, Result.andThen_ok, List.map_toArray, List.map_cons, List.map_nil, hs, hx, hr]
 exact h v' w' (by unfold OwnR; rw [List.length_append, flatR_append]; exact h2) h3
theorem wpList_append_rc {w : World} {ops : Array Oper} {rest : List Oper} {o : Oper} {a : Act} {Q : Exit -> Act -> World -> Prop} (hgd : o.guard = none) (s x : Operand)
 (ho : o.op = .call { callee := .builtin .append, args := #[s, x], argTypes := #[78, 78] })
 (base : Nat) (v : Value) (l : List (Nat × Nat)) (hs : a.eval s = v) (hown : OwnR w base v l)
 (b : Nat) (p : Nat × Nat) (hx : a.eval x = .slice (some ⟨b, 0, none⟩) 1 1) (hnew : Blk w b (rcC p) 92) (hlen : l.length < 1073741824) (hbase : base <= w.heap.size)
 (h : ∀ v' w', OwnR w' base v' (l ++ [p]) -> w.grownBy w' v.ownBlock -> wpList Try.prog ops Q rest (a.put o.dst v') w') : wpList Try.prog ops Q (o :: rest) a w :=
 wpList_plain hgd fun K hK => wp_append_rc s x ho base v l hs hown b p hx hnew hlen hbase fun v' w' h1 h2 => hK _ _ (h v' w' h1 h2)
section
variable {P : Program}
theorem run_append_where (w : World) (base : Nat) (t ty e : TypeId) (i : TypeInfo) (z : Value) (size bytes : Nat) (ht : P.underlying t = some (.slice e)) (hi : P.info? e = some i) (hz : i.zero = some z)
 (hsize : i.size = size) (hby : i.bytes = bytes) (hzs : z.cells.size = size) (hsz : 0 < size)
 (v : Value) (n : Nat) (xs : List Value) (hown : w.ownsRow base e size v n xs)
 (a : Addr) (m c : Nat) (news : List Value) (hl : news.length = m * size) (hnews : ∀ j u, news[j]? = some u -> w.cell? (a.add j) = some u) (h1 : ∀ u ∈ news, u.oneCell' = true) (hm : 0 < m)
 (h63 : n + m <= maxLen) (hbytes : (n + m) * bytes <= 140737488355328) (hbase : base <= w.heap.size) :
 ∃ v' w', (Builtin.append_ #[t, t] ty #[v, .slice (some a) m c]).run P w = .ok v' w' /\ w'.ownsRow base e size v' (n + m) (xs ++ news) /\ w.grownBy w' v.ownBlock /\
   (v'.ownBlock = v.ownBlock \/ ∃ g', v'.ownBlock = some g' /\ w.heap.size <= g') := by
 obtain ⟨v', w', hr, h2, h3, _⟩ := run_append_own (P := P) w base t ty e i z size bytes ht hi hz hsize hby hzs hsz v n xs hown a m c news hl hnews h1 h63 hbytes hbase
 refine ⟨v', w', hr, h2, h3, ?_⟩
 rcases hown.2 with ⟨rfl, hn⟩ | ⟨g', cap, cur, rfl, hbg, hgg, hnc, hcm, hcs, htake⟩
 ·subst hn
  have hx0 : xs = [] := List.length_eq_zero_iff.1 (by rw [hown.1]; simp)
  subst hx0
  obtain ⟨v2, w2, hr2, h4, _, _⟩ := run_append_own (P := P) w w.heap.size t ty e i z size bytes ht hi hz hsize hby hzs hsz (.slice none 0 0) 0 [] ⟨by simp, .inl ⟨rfl, rfl⟩⟩ a m c news hl hnews h1 h63 hbytes (Nat.le_refl _)
  rw [hr] at hr2
  simp only [Result.ok.injEq] at hr2
  obtain ⟨rfl, rfl⟩ := hr2
  rcases h4.2 with ⟨_, h5⟩ | ⟨g2, cap2, cur2, hv, hb2, _⟩
  ·omega
  ·exact .inr ⟨g2, by rw [hv]; rfl, hb2⟩
 ·by_cases hroom : n + m <= cap
  ·have hr2 := run_append_room (P := P) w t ty e i ht hi g' n cap cur hgg a m c news (by rw [hsize]; exact hl) hnews h1 hroom (by rw [hsize, hl, hcs, <- Nat.add_mul]; exact Nat.mul_le_mul_right _ hroom)
   rw [hr] at hr2
   simp only [Result.ok.injEq] at hr2
   exact .inl (by rw [hr2.1]; rfl)
  ·have holds := World.ownsRow.cells (w := w) (base := base) (e := e) (size := size) (v := .slice (some ⟨g', 0, none⟩) n cap) (n := n) (xs := xs) hown (g := g') rfl
   have hr2 := run_append_grow (P := P) w t ty e i z ht hi hz ⟨g', 0, none⟩ n cap xs (by rw [hsize]; exact hown.1) holds a m c news (by rw [hsize]; exact hl) hnews (by omega) (by unfold maxLen at h63; omega) (by rw [hby]; exact growslice_fits (by omega) hbytes)
   rw [hr] at hr2
   simp only [Result.ok.injEq] at hr2
   exact .inr ⟨w.heap.size, by rw [hr2.1]; rfl, Nat.le_refl _⟩
end
theorem wpList_append_rc2 {w : World} {ops : Array Oper} {rest : List Oper} {o : Oper} {a : Act} {Q : Exit -> Act -> World -> Prop} (hgd : o.guard = none) (s x : Operand)
 (ho : o.op = .call { callee := .builtin .append, args := #[s, x], argTypes := #[78, 78] })
 (base : Nat) (v : Value) (l : List (Nat × Nat)) (hs : a.eval s = v) (hown : OwnR w base v l)
 (b : Nat) (p : Nat × Nat) (hx : a.eval x = .slice (some ⟨b, 0, none⟩) 1 1) (hnew : Blk w b (rcC p) 92) (hlen : l.length < 1073741824) (hbase : base <= w.heap.size)
 (h : ∀ v' w', OwnR w' base v' (l ++ [p]) -> w.grownBy w' v.ownBlock -> (v'.ownBlock = v.ownBlock \/ ∃ g', v'.ownBlock = some g' /\ w.heap.size <= g') -> wpList Try.prog ops Q rest (a.put o.dst v') w') : wpList Try.prog ops Q (o :: rest) a w := by
 refine wpList_plain hgd fun K hK => ?_
 obtain ⟨ib, hib, hz0, hz1, hz2⟩ := info_parts infoRc
 obtain ⟨v', w', hr, h2, h3, h4⟩ := run_append_where (P := Try.prog) w base 78 o.type 92 ib _ 2 16 Try.underlying78 hib hz0 hz1 hz2 rfl (by decide) v l.length (flatR l) hown ⟨b, 0, none⟩ 1 1 (flatR [p]) (by rw [flatR_length]; rfl) (rc_news hnew) (flatR_ones [p]) (by decide) (by unfold maxLen; omega) (by omega) hbase
 unfold Oper.wp execOp
 simp only [ho, resolve, invoke, builtin, Sem.run_bind, Sem.run_pure, Result.andThen_ok, List.map_toArray, List.map_cons, List.map_nil, hs, hx, hr]
 exact hK _ _ (h v' w' (by unfold OwnR; rw [List.length_append, flatR_append]; exact h2) h3 h4)
end Go.Proofs.Ytpbbokdmoaadfaa
namespace Go.Proofs.Ytpbbokdmoaadfaa
set_option maxHeartbeats 64000000
set_option maxRecDepth 1000000
set_option linter.all false
open Go
def plainP (v : Vl) (k : Int) (b : UInt8) (t : List UInt8) (p : Int) (c : Nat) : Prop := v.kind = k /\ v.byte = b /\ v.text = t /\ v.pick = p /\ v.kids.len = c
instance (v : Vl) (k : Int) (b : UInt8) (t : List UInt8) (p : Int) (c : Nat) : Decidable (plainP v k b t p c) := by unfold plainP; infer_instance
theorem wr_none {l : List Nd} {i : Nat} {v : Vl} (h : ¬ headV (atN l i) v.kind v.byte v.text v.pick v.kids.len) : wrV l i v = none := by
 unfold wrV valW
 rw [if_neg (fun hh => h (by have := hh.1; rw [wrS_length] at this; exact this))]
theorem wr_kid_none {l : List Nd} {i : Nat} {v : Vl} {j : Nat} (hj : j < v.kids.len) (h : wrV l (kidN (atN l i) v.pick j).toNat (v.kids.at j) = none) : wrV l i v = none := by
 cases hw : wrV l i v with
 | none => rfl
 | some w =>
  obtain ⟨-, ws, -, hk, -⟩ := wrV_some hw
  rw [hk j hj] at h; cases h
section
variable {l : List Nd} {i : Nat} {v : Vl} {n : Nd} (hn : atN l i = n)
include hn
theorem wr_k1 (hk : n.kind = 1) : wrV l i v = if plainP v 1 0 [] 0 0 then some [] else none := by
 by_cases h : plainP v 1 0 [] 0 0
 ·rw [if_pos h]
  obtain ⟨h1, h2, h3, h4, h5⟩ := h
  refine wrV_of (ws := []) (by rw [hn]; unfold headV; rw [hk]; simp [h1, h2, h3, h4, h5]) (by rw [h5]; rfl) (fun j hj => by omega) (fun _ x hx => by cases hx) ?_
  rw [hn]; unfold capW; simp [hk]
 ·rw [if_neg h]
  refine wr_none (fun hh => h ?_)
  rw [hn] at hh
  unfold headV at hh
  obtain ⟨a1, a2, a3, a4, a5, a6, -⟩ := hh
  rw [if_neg (by omega)] at a4
  exact ⟨by omega, a2 (by omega), a4, by omega, a6 (by omega)⟩
theorem wr_k2 (hk : n.kind = 2) : wrV l i v = if plainP v 2 v.byte [] 0 0 /\ n.cls.getLsbD v.byte.toNat = true then some [v.byte] else none := by
 by_cases h : plainP v 2 v.byte [] 0 0 /\ n.cls.getLsbD v.byte.toNat = true
 ·rw [if_pos h]
  obtain ⟨⟨h1, h2, h3, h4, h5⟩, h6⟩ := h
  refine wrV_of (ws := []) (by rw [hn]; unfold headV; rw [hk]; simp [h1, h3, h4, h5, h6]) (by rw [h5]; rfl) (fun j hj => by omega) (fun _ x hx => by cases hx) ?_
  rw [hn]; unfold capW; simp [hk]
 ·rw [if_neg h]
  refine wr_none (fun hh => h ?_)
  rw [hn] at hh
  unfold headV at hh
  obtain ⟨a1, a2, a3, a4, a5, a6, -⟩ := hh
  rw [if_neg (by omega)] at a4
  exact ⟨⟨by omega, rfl, a4, by omega, a6 (by omega)⟩, a3 hk⟩
theorem wr_k3 (hk : n.kind = 3) : wrV l i v = if plainP v 3 0 n.text 0 0 then some n.text else none := by
 by_cases h : plainP v 3 0 n.text 0 0
 ·rw [if_pos h]
  obtain ⟨h1, h2, h3, h4, h5⟩ := h
  refine wrV_of (ws := []) (by rw [hn]; unfold headV; rw [hk]; simp [h1, h2, h3, h4, h5]) (by rw [h5]; rfl) (fun j hj => by omega) (fun _ x hx => by cases hx) ?_
  rw [hn]; unfold capW; simp [hk]
 ·rw [if_neg h]
  refine wr_none (fun hh => h ?_)
  rw [hn] at hh
  unfold headV at hh
  obtain ⟨a1, a2, a3, a4, a5, a6, -⟩ := hh
  rw [if_pos hk] at a4
  exact ⟨by omega, a2 (by omega), a4, by omega, a6 (by omega)⟩
def joinW : Option Wd -> Option Wd -> Option Wd
 | some x, some y => some (x ++ y)
 | _, _ => none
theorem wr_k4 (hk : n.kind = 4) : wrV l i v = if plainP v 4 0 [] 0 2 then joinW (wrV l n.a.toNat (v.kids.at 0)) (wrV l n.b.toNat (v.kids.at 1)) else none := by
 have k0 : ∀ p, kidN n p 0 = n.a := fun p => by unfold kidN; rw [if_neg (by omega)]
 have k1 : ∀ p, kidN n p 1 = n.b := fun p => by unfold kidN; rw [if_pos (.inl ⟨hk, rfl⟩)]
 by_cases h : plainP v 4 0 [] 0 2
 ·rw [if_pos h]
  obtain ⟨h1, h2, h3, h4, h5⟩ := h
  cases hx : wrV l n.a.toNat (v.kids.at 0) with
  | none => exact wr_kid_none (j := 0) (by omega) (by rw [hn, k0]; exact hx)
  | some x =>
   cases hy : wrV l n.b.toNat (v.kids.at 1) with
   | none => exact wr_kid_none (j := 1) (by omega) (by rw [hn, k1]; exact hy)
   | some y =>
    refine wrV_of (ws := [x, y]) (by rw [hn]; unfold headV; rw [hk]; simp [h1, h2, h3, h4, h5]) (by rw [h5]; rfl) (fun j hj => ?_) (fun h => by rw [hn] at h; omega) ?_
    ·rw [hn]
     rcases (by omega : j = 0 \/ j = 1) with rfl | rfl
     ·rw [k0]; exact hx
     ·rw [k1]; exact hy
    ·rw [hn]; unfold capW; simp [hk]
 ·rw [if_neg h]
  refine wr_none (fun hh => h ?_)
  rw [hn] at hh
  unfold headV at hh
  obtain ⟨a1, a2, a3, a4, a5, a6, a7, -⟩ := hh
  rw [if_neg (by omega)] at a4
  exact ⟨by omega, a2 (by omega), a4, by omega, a7 hk⟩
theorem wr_k5 (hk : n.kind = 5) : wrV l i v = if plainP v 5 0 [] 0 1 then wrV l n.a.toNat (v.kids.at 0) else if plainP v 5 0 [] 1 1 then wrV l n.b.toNat (v.kids.at 0) else none := by
 have key : ∀ (p : Int) (q : Nat), (p = 0 \/ p = 1) -> plainP v 5 0 [] p 1 -> (kidN n p 0).toNat = q -> wrV l i v = wrV l q (v.kids.at 0) := fun p q hp h hq => by
  obtain ⟨h1, h2, h3, h4, h5⟩ := h
  cases hx : wrV l q (v.kids.at 0) with
  | none => exact wr_kid_none (j := 0) (by omega) (by rw [hn, h4, hq]; exact hx)
  | some x =>
   refine wrV_of (ws := [x]) (by rw [hn]; unfold headV; rw [hk]; simp [h1, h2, h3, h4, h5, hp]) (by rw [h5]; rfl) (fun j hj => ?_) (fun h => by rw [hn] at h; omega) ?_
   ·obtain rfl : j = 0 := by omega
    rw [hn, h4, hq]; exact hx
   ·rw [hn]; unfold capW; simp [hk]
 by_cases h : plainP v 5 0 [] 0 1
 ·rw [if_pos h]
  exact key 0 _ (.inl rfl) h (by unfold kidN; rw [if_neg (by omega)])
 ·rw [if_neg h]
  by_cases h' : plainP v 5 0 [] 1 1
  ·rw [if_pos h']
   exact key 1 _ (.inr rfl) h' (by unfold kidN; rw [if_pos (.inr ⟨hk, rfl⟩)])
  ·rw [if_neg h']
   refine wr_none (fun hh => ?_)
   rw [hn] at hh
   unfold headV at hh
   obtain ⟨a1, a2, a3, a4, a5, a6, a7, a8, -⟩ := hh
   rw [if_neg (by omega)] at a4
   rcases a5 with a5 | ⟨-, a5⟩
   ·exact h ⟨by omega, a2 (by omega), a4, a5, a8 (by omega)⟩
   ·exact h' ⟨by omega, a2 (by omega), a4, a5, a8 (by omega)⟩
theorem wr_k67 (hk : n.kind = 6 \/ n.kind = 7) {ws : List Wd} (h : plainP v n.kind 0 [] 0 v.kids.len) (h7 : n.kind = 7 -> n.lo <= (v.kids.len : Int) /\ (v.kids.len : Int) <= n.hi) (hl : ws.length = v.kids.len) (hw : ∀ j, j < v.kids.len -> wrV l n.a.toNat (v.kids.at j) = some (ws.getD j [])) (hne : ∀ x ∈ ws, x ≠ []) : wrV l i v = some ws.flatten := by
 obtain ⟨h1, h2, h3, h4, -⟩ := h
 have hkd : ∀ p j, kidN n p j = n.a := fun p j => by unfold kidN; rw [if_neg (by omega)]
 refine wrV_of (ws := ws) (by rw [hn]; unfold headV; refine ⟨h1, fun _ => h2, fun h => by omega, by rw [if_neg (by omega)]; exact h3, .inl h4, fun h => by omega, fun h => by omega, fun h => by omega, h7⟩) hl (fun j hj => by rw [hn, hkd]; exact hw j hj) (fun _ => hne) ?_
 rw [hn]; unfold capW; rw [if_neg (by omega), if_neg (by omega), if_neg (by omega), if_neg (by omega)]
theorem wr_k67_bad (hk : n.kind = 6 \/ n.kind = 7) {j : Nat} (hj : j < v.kids.len) (h : wrV l n.a.toNat (v.kids.at j) = none \/ wrV l n.a.toNat (v.kids.at j) = some []) : wrV l i v = none := by
 have hkd : ∀ p j, kidN n p j = n.a := fun p j => by unfold kidN; rw [if_neg (by omega)]
 rcases h with h | h
 ·exact wr_kid_none hj (by rw [hn, hkd]; exact h)
 ·cases hw : wrV l i v with
  | none => rfl
  | some w =>
   obtain ⟨-, ws, hl, hkk, hne, -⟩ := wrV_some hw
   rw [hn] at hkk hne
   have := hkk j hj
   rw [hkd, h] at this
   injection this with this
   exact absurd this.symm (hne hk _ (by rw [List.getD_eq_getElem?_getD, List.getElem?_eq_getElem (by omega)]; exact List.getElem_mem _))
theorem wr_k67_no (hk : n.kind = 6 \/ n.kind = 7) (h : ¬ (plainP v n.kind 0 [] 0 v.kids.len /\ (n.kind = 7 -> n.lo <= (v.kids.len : Int) /\ (v.kids.len : Int) <= n.hi))) : wrV l i v = none := by
 refine wr_none (fun hh => h ?_)
 rw [hn] at hh
 unfold headV at hh
 obtain ⟨a1, a2, a3, a4, a5, a6, a7, a8, a9⟩ := hh
 rw [if_neg (by omega)] at a4
 exact ⟨⟨a1, a2 (by omega), a4, by omega, rfl⟩, a9⟩
def frmW (k : Int) : Option Wd -> Option Wd
 | none => none
 | some x => if k = 8 then (if x.length <= 255 then some (byU x.length :: x) else none) else (if x.length <= 65535 then some (byU (x.length / 256) :: byU (x.length % 256) :: x) else none)
theorem wr_k89 (hk : n.kind = 8 \/ n.kind = 9) : wrV l i v = if plainP v n.kind 0 [] 0 1 then frmW n.kind (wrV l n.a.toNat (v.kids.at 0)) else none := by
 have hkd : ∀ p j, kidN n p j = n.a := fun p j => by unfold kidN; rw [if_neg (by omega)]
 by_cases h : plainP v n.kind 0 [] 0 1
 ·rw [if_pos h]
  obtain ⟨h1, h2, h3, h4, h5⟩ := h
  cases hx : wrV l n.a.toNat (v.kids.at 0) with
  | none => exact wr_kid_none (j := 0) (by omega) (by rw [hn, hkd]; exact hx)
  | some x =>
   have hcap : capW n v.byte [x].flatten = frmW n.kind (some x) := by
    unfold capW frmW
    simp only [List.flatten_cons, List.flatten_nil, List.append_nil]
    rw [if_neg (by omega), if_neg (by omega)]
    rcases hk with e | e
    ·simp [e]
    ·simp [e]
   cases hf : frmW n.kind (some x) with
   | none =>
    cases hw : wrV l i v with
    | none => rfl
    | some w =>
     exfalso
     obtain ⟨-, ws, hl, hkk, -, hc⟩ := wrV_some hw
     rw [hn] at hkk hc
     obtain ⟨y, rfl⟩ := List.length_eq_one_iff.1 (by rw [hl, h5] : ws.length = 1)
     have := hkk 0 (by omega)
     rw [hkd, hx] at this
     have : x = y := by simpa using this
     subst this
     rw [hcap, hf] at hc
     cases hc
   | some z =>
    refine wrV_of (ws := [x]) (by rw [hn]; unfold headV; refine ⟨h1, fun _ => h2, fun h => by omega, by rw [if_neg (by omega)]; exact h3, .inl h4, fun h => by omega, fun h => by omega, fun _ => h5, fun h => by omega⟩) (by rw [h5]; rfl) (fun j hj => ?_) (fun h => by rw [hn] at h; omega) ?_
    ·obtain rfl : j = 0 := by omega
     rw [hn, hkd]; exact hx
    ·rw [hn, hcap, hf]
 ·rw [if_neg h]
  refine wr_none (fun hh => h ?_)
  rw [hn] at hh
  unfold headV at hh
  obtain ⟨a1, a2, a3, a4, a5, a6, a7, a8, -⟩ := hh
  rw [if_neg (by omega)] at a4
  exact ⟨a1, a2 (by omega), a4, by omega, a8 (by omega)⟩
end
end Go.Proofs.Ytpbbokdmoaadfaa
