/- Bounds of pairs: walked. -/
import Derived.Test.YtpbbokdmoaadfaaM03
import Derived.Test.YtpbbokdmoaadfaaM19
import Derived.Test.YtpbbokdmoaadfaaM12
import Derived.Test.YtpbbokdmoaadfaaM11
import Derived.Test.YtpbbokdmoaadfaaM14
import Derived.Test.YtpbbokdmoaadfaaM15
import Derived.Test.YtpbbokdmoaadfaaM06
import Derived.Test.YtpbbokdmoaadfaaM07
namespace Go.Proofs.Ytpbbokdmoaadfaa
open Go Go.RowKit
set_option linter.unusedVariables false
set_option linter.unusedSimpArgs false
structure Sm (l : List Nd) : Prop where
  form : Form l
  len : l.length <= 4096
  txt : Txt l
theorem Form.at_ {l : List Nd} (h : Form l) {n : Nd} (hn : n ∈ l) : ∃ i, i < l.length /\ atN l i = n := by
  obtain ⟨i, hi, rfl⟩ := List.mem_iff_getElem.1 hn
  exact ⟨i, hi, by unfold atN; rw [List.getD_eq_getElem?_getD, List.getElem?_eq_getElem hi]; rfl⟩
theorem Sm.mv {l : List Nd} (h : Sm l) {d : Int} (h1 : -1073741824 <= d) (h2 : d <= 1073741824) : ∀ n ∈ l, MvOk d n /\ n.kind <= 9 := fun n hn => by
  have hl := h.len
  obtain ⟨i, hi, rfl⟩ := h.form.at_ hn
  exact ⟨(h.form.2.1 i hi).mvOk (by omega) (txt_at h.txt i) h1 h2, (h.form.2.1 i hi).kind9⟩
theorem Txt.snoc {l : List Nd} (h : Txt l) {n : Nd} (hn : n.text = []) : Txt (l ++ [n]) := fun m hm => by
  rcases List.mem_append.1 hm with h1 | h1
  · exact h m h1
  · rw [List.mem_singleton.1 h1, hn]; simp
theorem Txt.mv {l : List Nd} (h : Txt l) (d : Int) : Txt (l.map (mvN d)) := fun m hm => by
  obtain ⟨n, hn, rfl⟩ := List.mem_map.1 hm
  have e : (mvN d n).text = n.text := by unfold mvN; (repeat' split) <;> rfl
  rw [e]; exact h n hn
theorem Sm.wrap {l : List Nd} (h : Sm l) (hl : l.length <= 999) {kind : Int} (hk : kind = 6 \/ kind = 8 \/ kind = 9) : Sm (wrapL kind 0 0 l) :=
  ⟨wrap_form h.form hk ⟨rfl, rfl⟩, by unfold wrapL; rw [List.length_append]; simp; omega, by unfold wrapL; exact h.txt.snoc rfl⟩
theorem Sm.pair {l m : List Nd} (h : Sm l) (k : Sm m) (hl : l.length + m.length <= 999) {kind : Int} (hk : kind = 4 \/ kind = 5) : Sm (pairL kind l m) :=
  ⟨pair_form h.form k.form hk, by unfold pairL; rw [List.length_append, List.length_append, List.length_map]; simp; omega, by
    unfold pairL
    refine Txt.snoc (fun n hn => ?_) rfl
    rcases List.mem_append.1 hn with h1 | h1
    · exact h.txt n h1
    · exact k.txt.mv _ n h1⟩
theorem IsD.rwrap {l : List Nd} {v : Value} {w : World} (h : IsD l v w) (hs : Sm l) (kind lo hi : Int) : Calls Try.prog 21 #[.int .i64 kind, .int .i64 lo, .int .i64 hi, v] w (DPost w (wrapL kind lo hi l)) := by
  obtain ⟨A, c, hc, rfl, hr⟩ := h
  exact rwrap_any kind lo hi l A c hs.form.1 (by have := hs.len; omega) (hs.mv (by omega) (by omega)) w hr
theorem IsD.rpair {l m : List Nd} {u v : Value} {w : World} (h : IsD l u w) (k : IsD m v w) (hs : Sm l) (ks : Sm m) (kind : Int) : Calls Try.prog 20 #[.int .i64 kind, u, v] w (DPost w (pairL kind l m)) := by
  obtain ⟨A, c, hc, rfl, hr⟩ := h
  obtain ⟨B, d, hd, rfl, hq⟩ := k
  have h1 := hs.len
  have h2 := ks.len
  exact rpairs_any kind l m A B c d hs.form.1 ks.form.1 (by omega) (by omega) (hs.mv (by omega) (by omega)) (ks.mv (by omega) (by omega)) w hr hq
def vlC (v : Vl) (B : Option Addr) (c : Nat) : Array Value := #[.int .i64 v.kind, .int .u8 ((v.byte.toNat : Nat) : Int), .string (bs v.text), .int .i64 v.pick, .slice B v.kids.len c]
def VRow (w : World) : Option Addr -> Nat -> Vs -> Prop
  | _, _, .nil => True
  | A, i, .cons k b t p ks r => (∃ g o, A = some ⟨g, o, none⟩ /\ g < w.heap.size /\ ∃ B c, ks.len <= c /\ (∀ j, j < 5 -> w.cell? ⟨g, o + i * 5 + j, none⟩ = (vlC ⟨k, b, t, p, ks⟩ B c)[j]?) /\ VRow w B 0 ks) /\ VRow w A (i + 1) r
theorem VRow.later {w w' : World} (hb : Below w.heap.size w w') : ∀ {s : Vs} {A : Option Addr} {i : Nat}, VRow w A i s -> VRow w' A i s
  | .nil, A, i, h => trivial
  | .cons k b t p ks r, A, i, h => by
    obtain ⟨⟨g, o, h1, h2, B, c, h3, h4, h5⟩, h6⟩ := h
    exact ⟨⟨g, o, h1, Nat.lt_of_lt_of_le h2 hb.size, B, c, h3, fun j hj => (hb.cell (p := ⟨g, o + i * 5 + j, none⟩) h2).trans (h4 j hj), VRow.later hb h5⟩, VRow.later hb h6⟩
def VAt (w : World) (g o : Nat) (v : Vl) : Prop := ∃ B c, v.kids.len <= c /\ (∀ j, j < 5 -> w.cell? ⟨g, o + j, none⟩ = (vlC v B c)[j]?) /\ VRow w B 0 v.kids
theorem Vs.len_cons (k : Int) (b : UInt8) (t : List UInt8) (p : Int) (ks r : Vs) : (Vs.cons k b t p ks r).len = r.len + 1 := rfl
theorem VRow.at_ {w : World} : ∀ {s : Vs} {A : Option Addr} {i j : Nat}, VRow w A i s -> j < s.len -> ∃ g o, A = some ⟨g, o, none⟩ /\ g < w.heap.size /\ VAt w g (o + (i + j) * 5) (s.at j)
  | .nil, A, i, j, h, hj => absurd hj (Nat.not_lt_zero j)
  | .cons k b t p ks r, A, i, 0, h, hj => by
    obtain ⟨⟨g, o, h1, h2, B, c, h3, h4, h5⟩, h6⟩ := h
    exact ⟨g, o, h1, h2, B, c, h3, h4, h5⟩
  | .cons k b t p ks r, A, i, j + 1, h, hj => by
    obtain ⟨g, o, h1, h2, h3⟩ := VRow.at_ h.2 (j := j) (by rw [Vs.len_cons] at hj; omega)
    exact ⟨g, o, h1, h2, by rw [show i + (j + 1) = i + 1 + j by omega]; exact h3⟩
def IsV (w : World) (u : Value) (v : Vl) : Prop := ∃ B c, v.kids.len <= c /\ u = .agg (vlC v B c) /\ VRow w B 0 v.kids
structure Kc (B : Nat) (w w' : World) : Prop where
  size : w.heap.size <= w'.heap.size
  block : ∀ k, k < B -> ∀ vs t, Blk w k vs t -> Blk w' k vs t
  cell : ∀ p v, p.block < B -> w.cell? p = some v -> w'.cell? p = some v
theorem Kc.nrow {w w' : World} {A : Option Addr} {l : List Nd} (h : Kc w.heap.size w w') (k : NRow w A l) : NRow w' A l := fun i hi => by
  obtain ⟨b, off, ha, hlt, hc⟩ := k i hi
  refine ⟨b, off, ha, Nat.lt_of_lt_of_le hlt h.size, fun j hj => ?_⟩
  have e : ∃ v, (ndC (l.getD i nd0))[j]? = some v := by
    have : (ndC (l.getD i nd0)).size = 10 := rfl
    exact ⟨_, Array.getElem?_eq_getElem (by omega)⟩
  obtain ⟨v, hv⟩ := e
  rw [hv]
  exact h.cell ⟨b, off + i * 10 + j, none⟩ v hlt ((hc j hj).trans hv)
theorem Kc.isW {w w' : World} {W : List UInt8} {v : Value} (h : Kc w.heap.size w w') (k : IsW W v w) : IsW W v w' := by
  rcases k with k | ⟨b, off, cap, h1, h2, h5, h3, h4⟩
  · exact .inl k
  · exact .inr ⟨b, off, cap, h1, h2, h5, Nat.lt_of_lt_of_le h3 h.size, fun i hi => h.cell ⟨b, off + i, none⟩ _ h3 (h4 i hi)⟩
theorem Kc.rrow {w w' : World} {A : Option Addr} {l : List (Nat × Nat)} (h : Kc w.heap.size w w') (k : RcRow w A l) : RcRow w' A l := k.keep fun b cur hb => h.block b hb.lt _ _ hb
theorem Kc.isR {w w' : World} {v : Value} {l : List (Nat × Nat)} (h : Kc w.heap.size w w') (k : IsR w v l) : IsR w' v l := by
  obtain ⟨A, c, h1, h2, h3⟩ := k
  exact ⟨A, c, h1, h2, h.rrow h3⟩
theorem Kc.owns {w w' : World} {base size n : Nat} {e : TypeId} {v : Value} {xs : List Value} (h : Kc w.heap.size w w') (k : w.ownsRow base e size v n xs) : w'.ownsRow base e size v n xs := by
  obtain ⟨h0, h1 | ⟨g, cap, cur, hv, hb, hg, hr⟩⟩ := k
  · exact ⟨h0, .inl h1⟩
  · have hk : Blk w g cur e := hg
    exact ⟨h0, .inr ⟨g, cap, cur, hv, hb, h.block g hk.lt _ _ hk, hr⟩⟩
def KeptX (w : World) (m : Nat) (l : List Nd) (V : Wd) (X : Nat -> Prop) : Prop := ∃ es, IsMapR w m es /\ ∀ k v, (k, v) ∈ es -> k.1 < l.length /\ k.2.1 <= k.2.2 /\ k.2.2 <= V.length /\
  ∃ A c, v = .slice A (plF (k.2.2 + 1) (rowV l k.1 V k.2.1)).length c /\ (plF (k.2.2 + 1) (rowV l k.1 V k.2.1)).length <= c /\ RcRow w A (plF (k.2.2 + 1) (rowV l k.1 V k.2.1)) /\ (plF (k.2.2 + 1) (rowV l k.1 V k.2.1) ≠ [] -> ∀ b o, A = some ⟨b, o, none⟩ -> ¬ X b)
theorem KeptX.less {w : World} {m : Nat} {l : List Nd} {V : Wd} {X Y : Nat -> Prop} (h : KeptX w m l V X) (hy : ∀ g, Y g -> X g) : KeptX w m l V Y := by
  obtain ⟨es, h1, h2⟩ := h
  refine ⟨es, h1, fun k v hk => ?_⟩
  obtain ⟨a, b, c, A, cc, d, e, f, g⟩ := h2 k v hk
  exact ⟨a, b, c, A, cc, d, e, f, fun hn b o ho hx => g hn b o ho (hy b hx)⟩
theorem KeptX.keep {w w' : World} {m : Nat} {l : List Nd} {V : Wd} {X : Nat -> Prop} (h : KeptX w m l V X) (hm : ∀ es, IsMapR w m es -> IsMapR w' m es) (hk : ∀ b cur, ¬ X b -> Blk w b cur 92 -> Blk w' b cur 92) : KeptX w' m l V (fun g => X g \/ w.heap.size <= g) := by
  obtain ⟨es, h1, h2⟩ := h
  refine ⟨es, hm _ h1, fun k v hkv => ?_⟩
  obtain ⟨a, b, c, A, cc, d, e, f, g⟩ := h2 k v hkv
  refine ⟨a, b, c, A, cc, d, e, fun hl => ?_, fun hn b o ho hx => ?_⟩
  · obtain ⟨bb, off, cur, k1, k2, k3⟩ := f hl
    exact ⟨bb, off, cur, k1, hk bb cur (g hl bb off k1) k2, k3⟩
  · obtain ⟨bb, off, cur, k1, k2, k3⟩ := f hn
    rw [ho] at k1
    cases k1
    rcases hx with hx | hx
    · exact g hn b o ho hx
    · have := k2.lt; omega
def Out (v : Value) (X : Nat -> Prop) : Prop := ∀ A n c, v = .slice A n c -> n ≠ 0 -> ∀ b o, A = some ⟨b, o, none⟩ -> ¬ X b
def Nw (B : Nat) (v : Value) : Prop := ∀ A n c, v = .slice A n c -> n ≠ 0 -> ∀ b o, A = some ⟨b, o, none⟩ -> B <= b
theorem Nw.out {B : Nat} {v : Value} {X : Nat -> Prop} (h : Nw B v) (hX : ∀ g, X g -> g < B) : Out v X := fun A n c e hn b o ho hx => by
  have := h A n c e hn b o ho
  have := hX b hx
  omega
theorem Nw.mono {B B' : Nat} {v : Value} (h : Nw B v) (hB : B' <= B) : Nw B' v := fun A n c e hn b o ho => Nat.le_trans hB (h A n c e hn b o ho)
theorem OwnR.nw {w : World} {base : Nat} {v : Value} {l : List (Nat × Nat)} (h : OwnR w base v l) : Nw base v := fun A n c e hn b o ho => by
  obtain ⟨_, ⟨hv, hn'⟩ | ⟨g, cap, cur, hv, hb, hg, hr⟩⟩ := h
  · rw [hv] at e; cases e; cases ho
  · rw [hv] at e; cases e; cases ho; exact hb
theorem Nw.nil (B : Nat) (c : Nat) : Nw B (.slice none 0 c) := fun A n c' e hn => by cases e; exact absurd rfl hn
structure Rk (m : Nat) (l : List Nd) (V : Wd) (B : Nat) (O : List Nat) (w w' : World) : Prop where
  os : w'.os = w.os
  tape : w'.tape = w.tape
  output : w'.output = w.output
  size : w.heap.size <= w'.heap.size
  block : ∀ k, k < B -> k ≠ m -> w'.heap[k]? = w.heap[k]?
  low : ∀ g ∈ O, B <= g /\ g < w'.heap.size
  map : ∀ X, (∀ g, X g -> g < B) -> KeptX w m l V X -> KeptX w' m l V (fun g => X g \/ g ∈ O)
  nc : ∀ k o, k ≠ m -> w.heap[k]? = some o -> (∀ vs t, o ≠ Obj.cells vs t) -> w'.heap[k]? = some o
section
variable {m : Nat} {l : List Nd} {V : Wd} {B : Nat} {O : List Nat} {w0 w w' : World}
theorem Rk.refl (w : World) (B : Nat) : Rk m l V B [] w w := ⟨rfl, rfl, rfl, Nat.le_refl _, fun _ _ _ => rfl, (fun g hg => by cases hg), fun X _ h => h.less fun g hg => (by rcases hg with h | h; exact h; cases h), fun _ _ _ h _ => h⟩
theorem Rk.call (h : Rk m l V B O w0 w) (hB : B <= w.heap.size) (k : Rk m l V w.heap.size [] w w') : Rk m l V B O w0 w' :=
  ⟨k.os.trans h.os, k.tape.trans h.tape, k.output.trans h.output, Nat.le_trans h.size k.size, fun b hb hm => (k.block b (by omega) hm).trans (h.block b hb hm),
    fun g hg => ⟨(h.low g hg).1, Nat.lt_of_lt_of_le (h.low g hg).2 k.size⟩,
    fun X hX hK => (k.map _ (fun g hg => by rcases hg with hg | hg; exact Nat.lt_of_lt_of_le (hX g hg) hB; exact (h.low g hg).2) (h.map X hX hK)).less fun g hg => .inl hg, fun b o hb ho hn => k.nc b o hb (h.nc b o hb ho hn) hn⟩
theorem Rk.of_below (h : Below w.heap.size w w') : Rk m l V w.heap.size [] w w' :=
  ⟨h.os, h.tape, h.output, h.size, fun b hb _ => h.block b hb, (fun g hg => by cases hg),
    fun X _ hK => (hK.keep (fun es k => (h.block m k.lt).trans k) fun b cur _ k => k.later h).less fun g hg => (by rcases hg with h | h; exact .inl h; cases h), fun b o _ ho _ => (h.block b (Array.getElem?_eq_some_iff.1 ho).1).trans ho⟩
theorem Rk.later (h : Rk m l V B O w0 w) (hB : B <= w.heap.size) (k : Below w.heap.size w w') : Rk m l V B O w0 w' := h.call hB (.of_below k)
theorem ismap_blk {es : List (Ky × Value)} {b : Nat} {vs : Array Value} {t : TypeId} (h : IsMapR w m es) (k : Blk w b vs t) : b ≠ m := fun e => by
  subst e
  unfold IsMapR at h; unfold Blk at k
  rw [h] at k; cases k
theorem Rk.setT (h : Rk m l V B O w0 w) {g : Nat} {vs : Array Value} {t : TypeId} (k : Blk w g vs t) (ht : t ≠ 92) (hg : B <= g) (j : Nat) (u : Value) : Rk m l V B O w0 (w.setCell ⟨g, j, none⟩ u) := by
  have hs : (w.setCell ⟨g, j, none⟩ u).heap.size = w.heap.size := by simp [World.setCell]
  refine ⟨h.os, h.tape, h.output, by rw [hs]; exact h.size, fun b hb hm => (Below.heap_setCell _ _ _ _ (show b ≠ g by omega)).trans (h.block b hb hm), fun g' hg' => by rw [hs]; exact h.low g' hg', fun X hX hK => ?_, fun b o hb ho hn => (Below.heap_setCell _ _ _ _ (fun e => by have e : b = g := e; subst e; have h9 := h.nc b o hb ho hn; unfold Blk at k; rw [k] at h9; exact hn _ _ (Option.some.inj h9).symm)).trans (h.nc b o hb ho hn)⟩
  refine ((h.map X hX hK).keep (fun es hm => ?_) fun b cur _ hb => ?_).less fun g' hg' => .inl hg'
  · unfold IsMapR
    rw [Below.heap_setCell _ _ _ _ (fun e => ismap_blk hm k e.symm)]
    exact hm
  · exact hb.setCell_ne (a := ⟨g, j, none⟩) (fun e => by
      have e : g = b := e
      subst e
      unfold Blk at hb k
      rw [hb] at k
      have := Option.some.inj k
      injection this with _ h2
      exact ht h2.symm) _
theorem Rk.growT (h : Rk m l V B O w0 w) (hB : B <= w.heap.size) {size n : Nat} {e : TypeId} {v : Value} {xs : List Value} (hown : w.ownsRow B e size v n xs) (ht : e ≠ 92) (hg : w.grownBy w' v.ownBlock) : Rk m l V B O w0 w' := by
  have hne : ∀ b cur, Blk w b cur 92 -> some b ≠ v.ownBlock := fun b cur hb e2 => by
    obtain ⟨_, ⟨hv, _⟩ | ⟨g, cap, cu, hv, _, hgg, _⟩⟩ := hown
    · rw [hv] at e2; cases e2
    · rw [hv] at e2
      have e2 : b = g := by simpa [Value.ownBlock] using e2
      subst e2
      unfold Blk at hb
      rw [hgg] at hb
      have := Option.some.inj hb
      injection this with _ h2
      exact ht h2
  have hnm : ∀ es, IsMapR w m es -> some m ≠ v.ownBlock := fun es hm e2 => by
    obtain ⟨_, ⟨hv, _⟩ | ⟨g, cap, cu, hv, _, hgg, _⟩⟩ := hown
    · rw [hv] at e2; cases e2
    · rw [hv] at e2
      have e2 : m = g := by simpa [Value.ownBlock] using e2
      subst e2
      unfold IsMapR at hm
      rw [hgg] at hm; cases hm
  have hnc : ∀ b o, b ≠ m -> w0.heap[b]? = some o -> (∀ vs t, o ≠ Obj.cells vs t) -> w'.heap[b]? = some o := fun b o hb ho hn => by
    have h9 := h.nc b o hb ho hn
    refine (hg.block b (Array.getElem?_eq_some_iff.1 h9).1 fun e2 => ?_).trans h9
    obtain ⟨_, ⟨hv, _⟩ | ⟨g, cap, cu, hv, _, hgg, _⟩⟩ := hown
    · rw [hv] at e2; cases e2
    · rw [hv] at e2
      have e2 : b = g := by simpa [Value.ownBlock] using e2
      subst e2
      rw [hgg] at h9
      exact hn _ _ (Option.some.inj h9).symm
  have hlo := World.ownsRow.lt hown
  refine ⟨hg.os.trans h.os, hg.tape.trans h.tape, hg.output.trans h.output, Nat.le_trans h.size hg.size, fun b hb hm => (hg.block b (by omega) (fun e2 => by have := (hlo b e2.symm).1; omega)).trans (h.block b hb hm), fun g' hg' => ⟨(h.low g' hg').1, Nat.lt_of_lt_of_le (h.low g' hg').2 hg.size⟩, fun X hX hK => ?_, hnc⟩
  refine ((h.map X hX hK).keep (fun es hm => (hg.block m hm.lt (hnm es hm)).trans hm) fun b cur _ hb => (hg.block b hb.lt (hne b cur hb)).trans hb).less fun g' hg' => .inl hg'
theorem Rk.growO (h : Rk m l V B O w0 w) (hB : B <= w.heap.size) {v v' : Value} {ll ll' : List (Nat × Nat)} (hown : OwnR w B v ll) (hown' : OwnR w' B v' ll') (hO : ∀ k, v.ownBlock = some k -> k ∈ O) (hg : w.grownBy w' v.ownBlock) (hp : v'.ownBlock = v.ownBlock \/ ∃ g', v'.ownBlock = some g' /\ w.heap.size <= g') :
    ∃ O', Rk m l V B O' w0 w' /\ ∀ k, v'.ownBlock = some k -> k ∈ O' := by
  have hnm : ∀ es, IsMapR w m es -> some m ≠ v.ownBlock := fun es hm e2 => by
    obtain ⟨_, ⟨hv, _⟩ | ⟨g, cap, cu, hv, _, hgg, _⟩⟩ := hown
    · rw [hv] at e2; cases e2
    · rw [hv] at e2
      have e2 : m = g := by simpa [Value.ownBlock] using e2
      subst e2
      unfold IsMapR at hm
      rw [hgg] at hm; cases hm
  have hnc : ∀ b o, b ≠ m -> w0.heap[b]? = some o -> (∀ vs t, o ≠ Obj.cells vs t) -> w'.heap[b]? = some o := fun b o hb ho hn => by
    have h9 := h.nc b o hb ho hn
    refine (hg.block b (Array.getElem?_eq_some_iff.1 h9).1 fun e2 => ?_).trans h9
    obtain ⟨_, ⟨hv, _⟩ | ⟨g, cap, cu, hv, _, hgg, _⟩⟩ := hown
    · rw [hv] at e2; cases e2
    · rw [hv] at e2
      have e2 : b = g := by simpa [Value.ownBlock] using e2
      subst e2
      rw [hgg] at h9
      exact hn _ _ (Option.some.inj h9).symm
  have hlo := World.ownsRow.lt hown
  have hlo' := World.ownsRow.lt hown'
  have hmap : ∀ X, (∀ g, X g -> g < B) -> KeptX w0 m l V X -> KeptX w' m l V (fun g => (X g \/ g ∈ O) \/ w.heap.size <= g) := fun X hX hK =>
    (h.map X hX hK).keep (fun es hm => (hg.block m hm.lt (hnm es hm)).trans hm) fun b cur hb hb2 => (hg.block b hb2.lt (fun e => hb (.inr (hO b e.symm)))).trans hb2
  have hblk : ∀ b, b < B -> b ≠ m -> w'.heap[b]? = w0.heap[b]? := fun b hb hm => (hg.block b (by omega) (fun e2 => by have := (hlo b e2.symm).1; omega)).trans (h.block b hb hm)
  rcases hp with hp | ⟨g', hp, hge⟩
  · refine ⟨O, ⟨hg.os.trans h.os, hg.tape.trans h.tape, hg.output.trans h.output, Nat.le_trans h.size hg.size, hblk, fun g hg' => ⟨(h.low g hg').1, Nat.lt_of_lt_of_le (h.low g hg').2 hg.size⟩, fun X hX hK => (hmap X hX hK).less fun g hg' => .inl hg', hnc⟩, fun k hk => hO k (hp ▸ hk)⟩
  · refine ⟨g' :: O, ⟨hg.os.trans h.os, hg.tape.trans h.tape, hg.output.trans h.output, Nat.le_trans h.size hg.size, hblk, fun g hg' => ?_, fun X hX hK => (hmap X hX hK).less fun g hg' => ?_, hnc⟩, fun k hk => ?_⟩
    · rcases List.mem_cons.1 hg' with e | e
      · subst e; exact hlo' _ hp
      · exact ⟨(h.low g e).1, Nat.lt_of_lt_of_le (h.low g e).2 hg.size⟩
    · rcases hg' with e | e
      · exact .inl (.inl e)
      · rcases List.mem_cons.1 e with e | e
        · subst e; exact .inr hge
        · exact .inl (.inr e)
    · rw [hp] at hk; cases hk; simp
theorem Rk.drop (h : Rk m l V B O w0 w) : Rk m l V B [] w0 w := ⟨h.os, h.tape, h.output, h.size, h.block, (fun g hg => by cases hg), fun X hX hK => (h.map X hX hK).less fun g hg => (by rcases hg with h | h; exact .inl h; cases h), h.nc⟩
theorem Rk.kc (h : Rk m l V w.heap.size [] w w') (hm : ∃ X, KeptX w m l V X) : Kc w.heap.size w w' := by
  obtain ⟨X, es, hm, -⟩ := hm
  have hb : ∀ k, k < w.heap.size -> ∀ vs t, Blk w k vs t -> Blk w' k vs t := fun k hk vs t x => (h.block k hk (ismap_blk hm x)).trans x
  refine ⟨h.size, hb, fun p v hp hc => ?_⟩
  have hne : p.block ≠ m := fun e => by
    unfold IsMapR at hm
    unfold World.cell? at hc
    rw [e, hm] at hc
    cases hc
  rw [World.cell?_of_block (h.block p.block hp hne)]
  exact hc
end
set_option maxRecDepth 100000
structure Kt (B : Nat) (w w' : World) : Prop where
  bel : Below B w w'
  typ : ∀ g vs t, t ≠ 5 -> t ≠ 118 -> Blk w g vs t -> Blk w' g vs t
  map : ∀ m es, IsMapR w m es -> IsMapR w' m es
  nc : ∀ (k : Nat) (o : Obj), w.heap[k]? = some o -> (∀ vs t, o ≠ Obj.cells vs t) -> w'.heap[k]? = some o
theorem Kt.trans {B : Nat} {a b c : World} (h : Kt B a b) (k : Kt B b c) : Kt B a c := ⟨h.bel.trans k.bel, fun g vs t h1 h2 x => k.typ g vs t h1 h2 (h.typ g vs t h1 h2 x), fun m es x => k.map m es (h.map m es x), fun b o ho hn => k.nc b o (h.nc b o ho hn) hn⟩
theorem Kt.of {B : Nat} {w w' : World} (hb : Below w.heap.size w w') (hB : B <= w.heap.size) : Kt B w w' := ⟨hb.mono hB, fun g vs t _ _ h => h.later hb, fun m es h => (hb.block m h.lt).trans h, fun b o ho _ => (hb.block b (Array.getElem?_eq_some_iff.1 ho).1).trans ho⟩
theorem Kt.refl {B : Nat} {w : World} (hB : B <= w.heap.size) : Kt B w w := .of (Below.refl _ _) hB
theorem Kt.setCell {B : Nat} {w : World} {g : Nat} {vs : Array Value} {t : TypeId} (hk : Blk w g vs t) (ht : t = 5 \/ t = 118) (hB : B <= g) (j : Nat) (u : Value) : Kt B w (w.setCell ⟨g, j, none⟩ u) := by
  refine ⟨(Below.refl B w).setCell (p := ⟨g, j, none⟩) hB _, fun g2 vs2 t2 h1 h2 x => x.setCell_ne (a := ⟨g, j, none⟩) (fun e => ?_) _, fun m es hm => ?_, fun b o ho hn => (Below.heap_setCell _ _ _ _ (fun e => by have e : b = g := e; subst e; unfold Blk at hk; rw [hk] at ho; exact hn _ _ (Option.some.inj ho).symm)).trans ho⟩
  · have e : g = g2 := e
    subst e
    unfold Blk at hk x
    rw [hk] at x
    have := Option.some.inj x
    injection this with _ h5
    rcases ht with ht | ht
    · exact h1 (h5.symm.trans ht)
    · exact h2 (h5.symm.trans ht)
  · unfold IsMapR
    rw [Below.heap_setCell _ _ _ _ (fun e => ismap_blk hm hk e.symm)]
    exact hm
theorem Kt.grown {B : Nat} {w w' : World} {v : Value} {l : List Nat} (h : Own8 w B v l) (hg : w.grownBy w' v.ownBlock) (hB : B <= w.heap.size) : Kt B w w' := by
  have hk := Kp.grown h hg hB
  refine ⟨hk.bel, fun g vs t h1 _ x => hk.typ g vs t h1 x, fun m es hm => (hg.block m hm.lt (fun e2 => ?_)).trans hm, fun b o ho hn => (hg.block b (Array.getElem?_eq_some_iff.1 ho).1 fun e2 => ?_).trans ho⟩
  rotate_left
  · obtain ⟨_, ⟨hv, _⟩ | ⟨g, cap, cu, hv, _, hgg, _⟩⟩ := h
    · rw [hv] at e2; cases e2
    · rw [hv] at e2
      have e2 : b = g := by simpa [Value.ownBlock] using e2
      subst e2
      rw [hgg] at ho
      exact hn _ _ (Option.some.inj ho).symm
  obtain ⟨_, ⟨hv, _⟩ | ⟨g, cap, cu, hv, _, hgg, _⟩⟩ := h
  · rw [hv] at e2; cases e2
  · rw [hv] at e2
    have e2 : m = g := by simpa [Value.ownBlock] using e2
    subst e2
    unfold IsMapR at hm
    rw [hgg] at hm; cases hm
theorem Rk.kt {m : Nat} {l : List Nd} {V : Wd} {B : Nat} {O : List Nat} {w0 w w' : World} (h : Rk m l V B O w0 w) (k : Kt B w w') : Rk m l V B O w0 w' :=
  ⟨k.bel.os.trans h.os, k.bel.tape.trans h.tape, k.bel.output.trans h.output, Nat.le_trans h.size k.bel.size, fun b hb hm => (k.bel.block b hb).trans (h.block b hb hm), fun g hg => ⟨(h.low g hg).1, Nat.lt_of_lt_of_le (h.low g hg).2 k.bel.size⟩,
    fun X hX hK => ((h.map X hX hK).keep (fun es x => k.map m es x) fun b cur _ x => k.typ b cur _ (by decide) (by decide) x).less fun g hg => .inl hg, fun b o hb ho hn => k.nc b o (h.nc b o hb ho hn) hn⟩
structure TyS (B tb first : Nat) (v : Value) (S : List UInt8) (w : World) : Prop where
  blk : Blk w tb #[.int .i64 (first : Int), v] 118
  low : B <= tb
  own : Own8 w B v (nats S)
theorem TyS.later {B tb first : Nat} {v : Value} {S : List UInt8} {w w' : World} (h : TyS B tb first v S w) (hb : Below w.heap.size w w') : TyS B tb first v S w' := ⟨h.blk.later hb, h.low, h.own.later hb⟩
theorem TyS.kc {B tb first : Nat} {v : Value} {S : List UInt8} {w w' : World} (h : TyS B tb first v S w) (k : Kc w.heap.size w w') : TyS B tb first v S w' := ⟨k.block _ h.blk.lt _ _ h.blk, h.low, k.owns h.own⟩
structure AzR (H : Nat) (L : Wd) (w w' : World) : Prop where
  out : H <= w.heap.size -> (Kt H w w' /\ (∀ u U, U <+: L -> Own8 w H u (nats U) -> Own8 w' H u (nats U)) /\ ∀ g vs, Blk w g vs 118 -> Blk w' g vs 118)
theorem AzR.of {H : Nat} {L : Wd} (w w' : World) (hb : Below w.heap.size w w') : AzR H L w w' := ⟨fun h => ⟨.of hb h, fun u U _ k => k.later hb, fun g vs k => k.later hb⟩⟩
theorem wp_append_az {w : World} {o : Oper} {a : Act} {K : Act -> World -> Prop} {Q : Exit -> Act -> World -> Prop} (s x : Operand)
    (ho : o.op = .call { callee := .builtin .append, args := #[s, x], argTypes := #[25, 3] })
    (H : Nat) (v : Value) (W : Wd) (hs : a.eval s = v) (hown : Own8 w H v (nats W)) (k : Nat) (hx : a.eval x = .int .i64 (k : Int)) (h0 : 0 < k) (hk : k <= 1000) (hlen : W.length + k <= 1073741824) (hH : H <= w.heap.size)
    (h : ∀ v' w', Own8 w' H v' (nats (W ++ List.replicate k 0)) -> AzR H (W ++ List.replicate k 0) w w' -> K (a.put o.dst v') w') : o.wp Try.prog a w K Q := by
  obtain ⟨v', w', hr, h2, h3, h4⟩ := run_append_zeros w H v W hown k h0 hk hlen hH o.type
  unfold Oper.wp execOp
  simp only [ho, resolve, invoke, builtin, Sem.run_bind, Sem.run_pure, Result.andThen_ok, List.map_toArray, List.map_cons, List.map_nil, hs, hx, hr]
  exact h v' w' h2 ⟨fun _ => ⟨.grown hown h3 hH, h4, fun g vs k => (Kp.grown hown h3 hH).typ g vs _ (by decide) k⟩⟩
theorem own_setB {w : World} {base size n : Nat} {e : TypeId} {v : Value} {xs : List Value} (h : w.ownsRow base e size v n xs) {a : Addr} (ha : ∀ k, v.ownBlock = some k -> k ≠ a.block) (u : Value) : (w.setCell a u).ownsRow base e size v n xs := by
  obtain ⟨h0, h1 | ⟨g, cap, cur, hv, hb, hg, hr⟩⟩ := h
  · exact ⟨h0, .inl h1⟩
  · have hne : g ≠ a.block := ha g (by rw [hv]; rfl)
    exact ⟨h0, .inr ⟨g, cap, cur, hv, hb, by rw [Below.heap_setCell _ _ _ _ hne]; exact hg, hr⟩⟩
structure AdS (B tb first : Nat) (v : Value) (S : List UInt8) (w0 : World) (w : World) : Prop where
  lo : B <= w.heap.size
  kt : Kt B w0 w
  ty : TyS B tb first v S w
theorem AdS.grow {B tb first : Nat} {v : Value} {S L : List UInt8} {w0 w w' : World} (hL : S <+: L) (h : AdS B tb first v S w0 w) (hr : AzR B L w w') : AdS B tb first v S w0 w' := by
  obtain ⟨k1, k2, k3⟩ := hr.out h.lo
  exact ⟨Nat.le_trans h.lo k1.bel.size, h.kt.trans k1, ⟨k3 _ _ h.ty.blk, h.ty.low, k2 _ _ hL h.ty.own⟩⟩
theorem AdS.later {B tb first : Nat} {v : Value} {S : List UInt8} {w0 w w' : World} (h : AdS B tb first v S w0 w) (hb : Below w.heap.size w w') : AdS B tb first v S w0 w' := ⟨Nat.le_trans h.lo hb.size, h.kt.trans (.of hb h.lo), h.ty.later hb⟩
def AzV (H : Nat) (L : Wd) (v : Value) (w : World) : Prop := H <= w.heap.size /\ Own8 w H v (nats L)
theorem AzV.grow (H : Nat) (L : Wd) : ∀ v w w', AzV H L v w -> AzR H L w w' -> AzV H L v w' := fun v w w' h hr => by
  obtain ⟨k1, k2, _⟩ := hr.out h.1
  exact ⟨Nat.le_trans h.1 k1.bel.size, k2 _ _ (List.prefix_refl L) h.2⟩
def AddP (B tb first : Nat) (S : List UInt8) (w0 : World) (e : Ending) (w : World) : Prop := ∃ v, e = .returned (.tuple #[]) /\ TyS B tb first v S w /\ Kt B w0 w
set_option maxHeartbeats 16000000 in
theorem cadd_any (B tb first a x : Nat) (S : List UInt8) (v : Value) (w : World) (hT : TyS B tb first v S w) (hB : B <= w.heap.size) (ha : first <= a) (ha2 : a < first + 1000) (hf : first <= 1000000) (hx : x <= 1000) (hl : S.length <= 1000000) :
    Calls Try.prog 87 #[.pointer (some ⟨tb, 0, none⟩), .int .i64 (a : Int), .int .i64 (x : Int)] w (AddP B tb first (if x = 0 then S else tyAdd first S a x) w) := by
  by_cases hx0 : x = 0
  · subst hx0
    rw [if_pos rfl]
    have HP : Hid (AddP B tb first S w (.returned (.tuple #[])) w) := ⟨v, rfl, hT, .refl hB⟩
    have hz : (((0 : Nat) : Int) == 0) = true := rfl
    clear hT
    go_enter Try.func87, Try.ntmps87
    go_wp2
    (refine bodyPost_ret (results_none rfl _ _ _) rfl ?_)
    exact HP.out
  · rw [if_neg hx0]
    have hz : ((x : Int) == 0) = false := by rw [beq_eq_false_iff_ne]; omega
    obtain ⟨k, hk⟩ : ∃ k : Nat, a - first = k := ⟨_, rfl⟩
    have hkz : (a : Int) - (first : Int) = (k : Int) := by omega
    have hk1 : k < 1000 := by omega
    have HS0 : Hid (AdS B tb first v S w w) := ⟨hB, .refl hB, hT⟩
    have HK0 := Lib.hid hk
    obtain ⟨y, hy⟩ : ∃ y, tyF first S a = y := ⟨_, rfl⟩
    have hy2 : y <= 255 := by
      rw [<- hy]; unfold tyF; split
      · have := (S.getD (a - first) 0).toNat_lt; omega
      · omega
    have HE : Hid (tyAdd first S a x = (S ++ List.replicate (k + 1 - S.length) 0).set k (UInt8.ofNat (min 2 (y + x)))) := by unfold Hid tyAdd; rw [hk, hy]
    have HYY : Hid ((S.getD k 0).toNat = y) := by unfold Hid; rw [<- hy, <- hk]; unfold tyF; rw [if_pos ha]
    have hfz2 : (first : Int) <= (a : Int) := by omega
    clear hT hx0 hk hy
    have c0 := HS0.out.ty.blk.cell 0
    have c1 := HS0.out.ty.blk.cell 1
    simp at c0 c1
    obtain ⟨A7, c7, hv7, hr7⟩ : ∃ A c, v = .slice A S.length c /\ S.length <= c := by
      obtain ⟨_, ⟨hv, hn⟩ | ⟨g, cap, cu, hv, _, hgg, hc, _⟩⟩ := HS0.out.ty.own
      · rw [nats_length] at hn; exact ⟨none, 0, by rw [hv, hn], by omega⟩
      · rw [nats_length] at hv hc; exact ⟨_, cap, hv, hc⟩
    by_cases hlt : k < S.length
    · have hge : ¬ (k : Int) >= (S.length : Int) := by omega
      have HKL0 := Lib.hid hlt
      have HEND : Hid (tyAdd first S a x = S.set k (UInt8.ofNat (min 2 (y + x)))) := by unfold Hid; rw [HE.out, show k + 1 - S.length = 0 by omega]; simp
      have HY := HYY
      have HS3 := HS0
      subst hv7
      clear hlt HE HYY hr7
      go_enter Try.func87, Try.ntmps87
      have HK : Hid (k < S.length) := HKL0.out
      obtain ⟨g, cap0, cur, hvv, hbg, hblk, hcl, hcm, -, -⟩ := own8_blk HS3.out.ty.own (fun e => by have := HK.out; rw [e] at this; exact absurd this (Nat.not_lt_zero _))
      obtain ⟨rfl, -, rfl⟩ := Value.slice.inj hvv
      have HT : Hid (∀ w', AdS B tb first (.slice (some ⟨g, 0, none⟩) S.length c7) S w w' -> w'.cell? ⟨tb, 0, none⟩ = some (.int .i64 (first : Int)) /\ w'.cell? ⟨tb, 1, none⟩ = some (.slice (some ⟨g, 0, none⟩) S.length c7) /\ w'.cell? ⟨g, k, none⟩ = some (.int .u8 ((y : Nat) : Int))) := fun w' h => by
        have c0 := h.ty.blk.cell 0
        have c1 := h.ty.blk.cell 1
        simp at c0 c1
        have c2 := (own8_set h.ty.own k HK.out 0).2.2.1
        rw [HY.out] at c2
        exact ⟨c0, c1, c2⟩
      have hkl : (k : Int) < (S.length : Int) := by have := HK.out; omega
      have HM := Lib.hid (fun w' => cmost_any (y + x) (by omega) w')
      have HSET : Hid (∀ w', AdS B tb first (.slice (some ⟨g, 0, none⟩) S.length c7) S w w' -> AddP B tb first (S.set k (UInt8.ofNat (min 2 (y + x)))) w (.returned (.tuple #[])) (w'.setCell ⟨g, k, none⟩ (.int .u8 ((min 2 (y + x) : Nat) : Int))) /\ w'.frozen? ⟨g, k, none⟩ = false /\ w'.cell? ⟨g, k, none⟩ = some (.int .u8 ((y : Nat) : Int))) := fun w' h => by
        obtain ⟨s1, s2, s3, s4⟩ := own8_set h.ty.own k HK.out (UInt8.ofNat (min 2 (y + x)))
        have e : (UInt8.ofNat (min 2 (y + x))).toNat = min 2 (y + x) := by rw [UInt8.toNat_ofNat']; omega
        rw [e] at s1 s2
        have hbk := s2 h.lo
        obtain ⟨g2, cap2, cur2, hv2, hb2, hk2, -⟩ := own8_blk h.ty.own (fun e => by have := HK.out; rw [e] at this; exact absurd this (Nat.not_lt_zero _))
        simp only [Value.slice.injEq, Option.some.injEq, Addr.mk.injEq, and_true, true_and] at hv2
        obtain ⟨rfl, rfl⟩ := hv2
        have hl : (S.set k (UInt8.ofNat (min 2 (y + x)))).length = S.length := List.length_set
        refine ⟨⟨_, rfl, ⟨hbk.typ _ _ _ (by decide) h.ty.blk, h.ty.low, s1⟩, h.kt.trans (.setCell hk2 (.inl rfl) hb2 _ _)⟩, s4, by rw [s3, HY.out]⟩
      have hsum : ((y + x : Nat) : Int) = (y : Int) + (x : Int) := by omega
      generalize hmn : min 2 (y + x) = mn at *
      have hmn2 : mn <= 2 := by omega
      have hmw : (mn : Int) % 256 = (mn : Int) := by omega
      rw [hsum] at HM
      clear hsum hmn hblk hcl hcm hbg
      go_upto_region 4 with (fail)
      refine wp_region_stable_last (S := (AdS B tb first (.slice (some ⟨g, 0, none⟩) S.length c7) S w)) (hSt := fun _ _ h hb => h.later hb) (plan := [[(0, none)], [(38, some 0)], [(39, some 1)], [(40, some 2)], [(1, none)], [(0, none)], [(43, some 5)], [(44, some 6)], [(45, some 7)], [(42, some 4), (46, some 8)], [(0, none)], [(48, some 10)], [(49, some 11)], [(50, some 12)], [(1, none)], [(0, none)], [(53, some 15)], [(54, some 16)], [(55, some 17)], [(52, some 14), (56, some 18)], [(51, some 13), (57, some 19)], [(58, some 20)], [(59, some 21)], [(2, none)], [(60, some 22), (61, some 23)], [(62, some 24)], [(63, some 25)], [(41, some 3), (47, some 9)]]) rfl (by kernel_rfl) (by kernel_rfl) (by kernel_rfl) (by kernel_rfl) ?hS ?_
      rotate_left
      simp only [List.dropLast]
      iterate 28 first
        | (refine chain_skip (by rfl) (by rfl) ?_)
        | (apply chain_want (by rfl)
           · intro act wx hS hr
             simp at hr
             obtain ⟨c0, c1, c2⟩ := HT.out _ hS
             go_simp
             (try go_ints)
             first
               | ((with_reducible refine (HM.out _).mono ?_); rintro e w5 ⟨rfl, rfl⟩; exact Done.same)
               | exact Done.same
          )
      show ∀ w', _ -> _
      intro wz hz
      simp [Act.put]
      case hS => exact HS3.out
      obtain ⟨hset, hfz, hcz⟩ := HSET.out _ hz
      have HSE := Lib.hid hset
      clear hset hz HSET HT HM HS3
      go_wp2
      go_end0
      rw [HEND.out]
      exact HSE.out
    · have hge : (k : Int) >= (S.length : Int) := by omega
      obtain ⟨q, hq⟩ : ∃ q : Nat, k + 1 - S.length = q := ⟨_, rfl⟩
      have hqz : (k : Int) + 1 - (S.length : Int) = (q : Int) := by omega
      have hq0 : 0 < q := by omega
      have hq1 : q <= 1000 := by omega
      have HKL0 : Hid (k < (S ++ List.replicate q (0 : UInt8)).length) := by unfold Hid; rw [List.length_append, List.length_replicate]; omega
      rw [hq] at HE
      have HY : Hid (((S ++ List.replicate q (0 : UInt8)).getD k 0).toNat = y) := by unfold Hid; rw [getD_zeros]; exact HYY.out
      have HPF : Hid (S <+: S ++ List.replicate q 0) := List.prefix_append _ _
      have HLL : Hid ((S ++ List.replicate q (0 : UInt8)).length <= 1002000) := by unfold Hid; rw [List.length_append, List.length_replicate]; omega
      subst hv7
      clear hlt HYY hr7 hq
      have hR : ∀ w w', Below w.heap.size w w' -> AzR B (S ++ List.replicate q 0) w w' := fun w w' => AzR.of w w'
      have HR := Lib.hid hR
      clear hR
      go_enter Try.func87, Try.ntmps87
      go_upto_region 3 with (fail)
      clear c0 c1
      refine G.wp_region_stable_last (R := (AzR B (S ++ List.replicate q 0))) HR.out (S := (AdS B tb first (.slice A7 S.length c7) S w)) (hSt := fun _ _ h hr => h.grow HPF.out hr) (plan := [[(0, none)], [(0, none)], [(23, some 1)], [(24, some 2)], [(25, some 3)], [(6, none)], [(27, some 5)], [(0, none)], [(29, some 7)], [(30, some 8)], [(31, some 9)], [(32, some 10)], [(28, some 6), (33, some 11)], [(26, some 4), (34, some 12)], [(22, some 0)], [(36, some 14)]]) rfl (by kernel_rfl) (by kernel_rfl) (by kernel_rfl) (by kernel_rfl) ?hS ?_
      rotate_left
      simp only [List.dropLast]
      iterate 13 first
        | (refine G.chain_skip (by rfl) (by rfl) ?_)
        | (apply G.chain_want (by rfl)
           · intro act wx hS hr
             simp at hr
             have c1 := hS.ty.blk.cell 1
             simp at c1
             go_simp
             (try go_ints)
             first
               | exact G.Done.same HR.out
          )
      (refine G.chain_rel (AzV B (S ++ List.replicate q 0)) (AzV.grow B (S ++ List.replicate q 0)) (by rfl) ?_ ?_
       · intro act wx hS hr
         simp at hr
         have c1 := hS.ty.blk.cell 1
         simp at c1
         obtain ⟨hr2, hr3⟩ := hr
         refine wp_append_az (.tmp 26) (.tmp 34) rfl B (.slice A7 S.length c7) S (by simp [Act.eval, hr2]) hS.ty.own q (by simp [Act.eval, hr3]) hq0 hq1 (by omega) hS.lo ?_
         intro v' w' q1 q2
         exact G.Done.rel q2 ⟨Nat.le_trans hS.lo (q2.out hS.lo).1.bel.size, q1⟩
         all_goals go_simp
      )
      iterate 2 first
        | (refine G.chain_skip (by rfl) (by rfl) ?_)
        | (apply G.chain_want (by rfl)
           · intro act wx hS hr
             simp at hr
             have c1 := hS.ty.blk.cell 1
             simp at c1
             go_simp
             (try go_ints)
             first
               | exact G.Done.same HR.out
          )
      show ∀ w', _ -> _
      intro wz hz
      simp [Act.put]
      case hS => exact HS0.out
      intro v6 hv6
      have hv8 : Own8 wz B v6 (nats (S ++ List.replicate q 0)) := hv6.2
      obtain ⟨A6, c6, hv6e⟩ : ∃ A c, v6 = .slice A (S ++ List.replicate q (0 : UInt8)).length c := by
        obtain ⟨_, ⟨hv, hn⟩ | ⟨g, cap, cu, hv, _, hgg, hc, _⟩⟩ := hv8
        · rw [nats_length] at hn; exact ⟨none, 0, by rw [hv, hn]⟩
        · rw [nats_length] at hv; exact ⟨_, cap, hv⟩
      have c1 := hz.ty.blk.cell 1
      have f1 := hz.ty.blk.frozen 1
      simp at c1
      have HS3 : Hid (AdS B tb first v6 (S ++ List.replicate q 0) w (wz.setCell ⟨tb, 1, none⟩ v6)) := by
        have hb := hz.ty.blk.setCell 1 v6
        refine ⟨by simp [World.setCell]; exact hz.lo, hz.kt.trans (.setCell hz.ty.blk (.inr rfl) hz.ty.low _ _), ⟨by simpa using hb, hz.ty.low, own_setB hv8 (own_typedU hv8 hz.ty.blk (by decide)) _⟩⟩
      subst hv6e
      clear hz hv6 hv8 HS0 HR HPF
      have HEND := HE
      generalize hSS : S ++ List.replicate q (0 : UInt8) = SS at *
      clear hSS HE
      go_wp2_with fail
      clear c1 f1
      generalize wz.setCell ⟨tb, 1, none⟩ (.slice A6 SS.length c6) = w3 at *
      have c0 := HS3.out.ty.blk.cell 0
      have c1 := HS3.out.ty.blk.cell 1
      simp at c0 c1
      have HK : Hid (k < SS.length) := HKL0.out
      obtain ⟨g, cap0, cur, hvv, hbg, hblk, hcl, hcm, -, -⟩ := own8_blk HS3.out.ty.own (fun e => by have := HK.out; rw [e] at this; exact absurd this (Nat.not_lt_zero _))
      obtain ⟨rfl, -, rfl⟩ := Value.slice.inj hvv
      have HT : Hid (∀ w', AdS B tb first (.slice (some ⟨g, 0, none⟩) SS.length c6) SS w w' -> w'.cell? ⟨tb, 0, none⟩ = some (.int .i64 (first : Int)) /\ w'.cell? ⟨tb, 1, none⟩ = some (.slice (some ⟨g, 0, none⟩) SS.length c6) /\ w'.cell? ⟨g, k, none⟩ = some (.int .u8 ((y : Nat) : Int))) := fun w' h => by
        have c0 := h.ty.blk.cell 0
        have c1 := h.ty.blk.cell 1
        simp at c0 c1
        have c2 := (own8_set h.ty.own k HK.out 0).2.2.1
        rw [HY.out] at c2
        exact ⟨c0, c1, c2⟩
      have hkl : (k : Int) < (SS.length : Int) := by have := HK.out; omega
      have HM := Lib.hid (fun w' => cmost_any (y + x) (by omega) w')
      have HSET : Hid (∀ w', AdS B tb first (.slice (some ⟨g, 0, none⟩) SS.length c6) SS w w' -> AddP B tb first (SS.set k (UInt8.ofNat (min 2 (y + x)))) w (.returned (.tuple #[])) (w'.setCell ⟨g, k, none⟩ (.int .u8 ((min 2 (y + x) : Nat) : Int))) /\ w'.frozen? ⟨g, k, none⟩ = false /\ w'.cell? ⟨g, k, none⟩ = some (.int .u8 ((y : Nat) : Int))) := fun w' h => by
        obtain ⟨s1, s2, s3, s4⟩ := own8_set h.ty.own k HK.out (UInt8.ofNat (min 2 (y + x)))
        have e : (UInt8.ofNat (min 2 (y + x))).toNat = min 2 (y + x) := by rw [UInt8.toNat_ofNat']; omega
        rw [e] at s1 s2
        have hbk := s2 h.lo
        obtain ⟨g2, cap2, cur2, hv2, hb2, hk2, -⟩ := own8_blk h.ty.own (fun e => by have := HK.out; rw [e] at this; exact absurd this (Nat.not_lt_zero _))
        simp only [Value.slice.injEq, Option.some.injEq, Addr.mk.injEq, and_true, true_and] at hv2
        obtain ⟨rfl, rfl⟩ := hv2
        have hl : (SS.set k (UInt8.ofNat (min 2 (y + x)))).length = SS.length := List.length_set
        refine ⟨⟨_, rfl, ⟨hbk.typ _ _ _ (by decide) h.ty.blk, h.ty.low, s1⟩, h.kt.trans (.setCell hk2 (.inl rfl) hb2 _ _)⟩, s4, by rw [s3, HY.out]⟩
      have hsum : ((y + x : Nat) : Int) = (y : Int) + (x : Int) := by omega
      generalize hmn : min 2 (y + x) = mn at *
      have hmn2 : mn <= 2 := by omega
      have hmw : (mn : Int) % 256 = (mn : Int) := by omega
      rw [hsum] at HM
      clear hsum hmn hblk hcl hcm hbg
      go_upto_region 4 with (fail)
      refine wp_region_stable_last (S := (AdS B tb first (.slice (some ⟨g, 0, none⟩) SS.length c6) SS w)) (hSt := fun _ _ h hb => h.later hb) (plan := [[(0, none)], [(38, some 0)], [(39, some 1)], [(40, some 2)], [(1, none)], [(0, none)], [(43, some 5)], [(44, some 6)], [(45, some 7)], [(42, some 4), (46, some 8)], [(0, none)], [(48, some 10)], [(49, some 11)], [(50, some 12)], [(1, none)], [(0, none)], [(53, some 15)], [(54, some 16)], [(55, some 17)], [(52, some 14), (56, some 18)], [(51, some 13), (57, some 19)], [(58, some 20)], [(59, some 21)], [(2, none)], [(60, some 22), (61, some 23)], [(62, some 24)], [(63, some 25)], [(41, some 3), (47, some 9)]]) rfl (by kernel_rfl) (by kernel_rfl) (by kernel_rfl) (by kernel_rfl) ?hS ?_
      rotate_left
      simp only [List.dropLast]
      iterate 28 first
        | (refine chain_skip (by rfl) (by rfl) ?_)
        | (apply chain_want (by rfl)
           · intro act wx hS hr
             simp at hr
             obtain ⟨c0, c1, c2⟩ := HT.out _ hS
             go_simp
             (try go_ints)
             first
               | ((with_reducible refine (HM.out _).mono ?_); rintro e w5 ⟨rfl, rfl⟩; exact Done.same)
               | exact Done.same
          )
      show ∀ w', _ -> _
      intro wz hz
      simp [Act.put]
      case hS => exact HS3.out
      obtain ⟨hset, hfz, hcz⟩ := HSET.out _ hz
      have HSE := Lib.hid hset
      clear hset hz HSET HT HM HS3
      go_wp2
      go_end0
      rw [HEND.out]
      exact HSE.out
end Go.Proofs.Ytpbbokdmoaadfaa
