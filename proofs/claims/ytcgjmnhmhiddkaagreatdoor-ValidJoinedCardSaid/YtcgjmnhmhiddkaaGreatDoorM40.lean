/- Pieces turned round: slices.Reverse at a row of pieces. -/
import Derived.Test.YtcgjmnhmhiddkaaGreatDoorM17
import Derived.Test.YtcgjmnhmhiddkaaGreatDoorM39
import Derived.Test.YtcgjmnhmhiddkaaGreatDoorM36
namespace Go.Proofs.YtcgjmnhmhiddkaaGreatDoor
open Go Go.RowKit Go.Sort
set_option linter.unusedVariables false
set_option linter.unusedSimpArgs false
set_option maxRecDepth 100000

instance : Inhabited Pc := ⟨pc0⟩
def encP (p : Pc) : List Value := (pcC p).toList
theorem encP_len (p : Pc) : (encP p).length = 3 := pcC_size p
theorem flatK_eq (l : List Pc) : (Go.Sort.flatK encP 3 l.toArray).toList = flat3 l := by
  apply List.ext_getElem?
  intro t
  have hsz : (Go.Sort.flatK encP 3 l.toArray).size = l.length * 3 := by rw [size_flatK]; simp
  by_cases ht : t < l.length * 3
  · have hd : t / 3 < l.length := by omega
    have hm : t % 3 < 3 := Nat.mod_lt _ (by decide)
    have h1 := flat3_get l (t / 3) (t % 3) hd hm
    rw [show t / 3 * 3 + t % 3 = t by omega] at h1
    rw [h1]
    have hs : t < (Go.Sort.flatK encP 3 l.toArray).size := by rw [hsz]; exact ht
    rw [Array.getElem?_toList, Array.getElem?_eq_getElem hs]
    have h2 := Go.Sort.get_flatK encP 3 l.toArray t (by simpa using ht)
    rw [getElem!_pos _ t hs] at h2
    rw [h2]
    have e1 : l.toArray[t / 3]! = l.getD (t / 3) pc0 := by
      rw [getElem!_pos _ _ (by simpa using hd), List.getD_eq_getElem?_getD, List.getElem?_eq_getElem hd]; rfl
    rw [e1]
    unfold encP
    have hl : t % 3 < (pcC (l.getD (t / 3) pc0)).toList.length := by rw [pcC_size]; exact hm
    rw [getElem!_pos (pcC (l.getD (t / 3) pc0)).toList (t % 3) hl, ← Array.getElem?_toList, List.getElem?_eq_getElem hl]
  · rw [List.getElem?_eq_none (by rw [Array.length_toList, hsz]; omega), List.getElem?_eq_none (by rw [flat3_length]; omega)]
theorem rev_any {w : World} {base : Nat} {v : Value} {l : List Pc} (h : OwnP w base v l) (hl : 0 < l.length) (hm : l.length ≤ 1000) :
    Calls Tryz.prog 49 #[v] w (fun e w' => e = .returned (.tuple #[]) ∧ OwnP w' base v l.reverse ∧ w.grownBy w' v.ownBlock) := by
  obtain ⟨g, cap, cur, rfl, hg, hblk, hcap, hmax, hsz, htake⟩ := h.blk hl
  have hF : (Go.Sort.flatK encP 3 l.toArray).size = l.length * 3 := by rw [size_flatK]; simp
  have hH : HoldsK encP 3 w g 0 l.toArray := fun j hj => by
    rw [hF] at hj
    refine ⟨?_, hblk.frozen _⟩
    have hs : j < (Go.Sort.flatK encP 3 l.toArray).size := by rw [hF]; exact hj
    rw [Nat.zero_add, hblk.cell, getElem!_pos _ j hs]
    have e : cur.toList[j]? = (Go.Sort.flatK encP 3 l.toArray).toList[j]? := by
      rw [flatK_eq, ← htake, List.getElem?_take, if_pos hj]
    rw [Array.getElem?_toList, Array.getElem?_toList, Array.getElem?_eq_getElem hs] at e
    exact e
  have hc := AnyQ.slices_Reverse laysRev 3 (fun w => Tryz.isAgg92 w) (fun w => Tryz.sizeOf92 w) encP encP_len (fun p u hu => flat3_ones [p] u (by unfold flat3; exact List.mem_append_left _ hu)) g 0 cap l.toArray w hH (by simp; omega)
  rw [show l.toArray.size = l.length from by simp] at hc
  refine hc.mono ?_
  rintro e w' ⟨rfl, n, rfl⟩
  have hrev : l.toArray.reverse = l.reverse.toArray := by simp
  rw [hrev]
  have hF2 : (Go.Sort.flatK encP 3 l.reverse.toArray).size = l.length * 3 := by rw [size_flatK]; simp
  obtain ⟨F, hFe⟩ : ∃ F, F = Go.Sort.flatK encP 3 l.reverse.toArray := ⟨_, rfl⟩
  have hheap : (putRowK encP 3 (Go.Sort.ahead w n) g 0 l.reverse.toArray).heap[g]? = some (Obj.cells (putCells id 0 F cur) 92) := by
    unfold putRowK putRow mapBlock Go.Sort.ahead
    simp only [Array.getElem?_modify]
    have hb : w.heap[g]? = some (Obj.cells cur 92) := hblk
    rw [hb, ← hFe]; rfl
  refine ⟨rfl, ⟨flat3_length _, .inr ⟨g, cap, putCells id 0 F cur, by rw [List.length_reverse], hg, hheap, by rw [List.length_reverse]; exact hcap, hmax, by unfold putCells; rw [Array.size_mapIdx]; exact hsz, ?_⟩⟩, ?_⟩
  · rw [List.length_reverse]
    apply List.ext_getElem?
    intro t
    by_cases ht : t < l.length * 3
    · rw [List.getElem?_take, if_pos ht, Array.getElem?_toList]
      unfold putCells
      have htc : t < cur.size := by have := Nat.mul_le_mul_right 3 hcap; omega
      rw [Array.getElem?_mapIdx, Array.getElem?_eq_getElem htc, Option.map_some, if_pos ⟨Nat.zero_le _, by rw [hFe, hF2]; omega⟩, Nat.sub_zero, ← flatK_eq, Array.getElem?_toList, ← hFe, Array.getElem?_eq_getElem (by rw [hFe, hF2]; exact ht), getElem!_pos _ t (by rw [hFe, hF2]; exact ht)]; rfl
    · rw [List.getElem?_take, if_neg ht, List.getElem?_eq_none (by rw [flat3_length, List.length_reverse]; omega)]
  · refine ⟨rfl, rfl, rfl, ?_, fun k hk hne => ?_⟩
    · unfold putRowK putRow mapBlock Go.Sort.ahead; simp
    · unfold putRowK putRow mapBlock Go.Sort.ahead
      simp only [Array.getElem?_modify]
      rw [if_neg (fun e => hne (by rw [e]; rfl))]
end Go.Proofs.YtcgjmnhmhiddkaaGreatDoor
/- each: walked. -/
namespace Go.Proofs.YtcgjmnhmhiddkaaGreatDoor
open Go Go.RowKit
set_option linter.unusedVariables false
set_option linter.unusedSimpArgs false
set_option maxRecDepth 100000

theorem bs_toList (s : List UInt8) : (bs s).toList = s := by simp [bs]
def toldC (l : List Bool) : Array Value := (l.map fun b => Value.bool b).toArray
theorem toldC_get {l : List Bool} {q : Nat} (h : q < l.length) : (toldC l)[q]? = some (.bool (l.getD q false)) := by
  unfold toldC
  rw [List.getElem?_toArray, List.getElem?_map, List.getD_eq_getElem?_getD, List.getElem?_eq_getElem h]; rfl
theorem toldC_set (l : List Bool) (q : Nat) : (toldC l).setIfInBounds q (.bool true) = toldC (l.set q true) := by
  unfold toldC
  rw [List.setIfInBounds_toArray, List.map_set]
def toldF (l : List Bool) : Nat → Bool := fun j => l.getD j false
theorem toldF_set {l : List Bool} {q : Nat} (h : q < l.length) : toldF (l.set q true) = fun j => decide (j = q) || toldF l j := by
  funext j
  unfold toldF
  rw [List.getD_eq_getElem?_getD, List.getD_eq_getElem?_getD, List.getElem?_set]
  by_cases e : q = j
  · subst e; simp [h]
  · rw [if_neg e, decide_eq_false (fun e2 => e e2.symm)]; simp
/-- Pieces whose signs are some. -/
def SgOk (ps : List Pc) : Prop := ∀ s, Pc.sg s ∈ ps → s ≠ []
theorem SgOk.tail {p : Pc} {ps : List Pc} (h : SgOk (p :: ps)) : SgOk ps := fun s hs => h s (List.mem_cons_of_mem _ hs)
theorem SgOk.append {a b : List Pc} (h : SgOk a) (k : SgOk b) : SgOk (a ++ b) := fun s hs => by
  rcases List.mem_append.1 hs with h1 | h1
  · exact h s h1
  · exact k s h1
theorem SgOk.brk {a : List Pc} (h : SgOk a) : SgOk (brk a) := fun s hs => by
  unfold Go.Proofs.YtcgjmnhmhiddkaaGreatDoor.brk at hs
  rcases List.mem_cons.1 hs with h1 | h1
  · cases h1; simp
  · rcases List.mem_append.1 h1 with h2 | h2
    · exact h s h2
    · rw [List.mem_singleton] at h2; cases h2; simp
theorem clsT_ne (c : BitVec 256) : clsT c ≠ [] := by unfold clsT; split <;> simp
theorem pcsN_ok (n : Nd) : SgOk (pcsN clsT bndT n) := by
  intro s hs
  unfold pcsN at hs
  have hc := clsT_ne n.cls
  have hb : bndT n.lo n.hi ≠ [] := by unfold bndT repT; simp
  (repeat' split at hs) <;> simp [Go.Proofs.YtcgjmnhmhiddkaaGreatDoor.brk] at hs <;> first | (subst hs; first | exact hc | exact hb | simp) | (rcases hs with rfl | rfl <;> simp) | (rcases hs with rfl | rfl | rfl <;> simp)
theorem fullN_ok (n : Nd) (lev : Int) : SgOk (fullN clsT bndT n lev) := by
  unfold fullN
  split
  · exact (pcsN_ok n).brk
  · exact pcsN_ok n
theorem pcsN_len (n : Nd) : 1 ≤ (pcsN clsT bndT n).length ∧ (pcsN clsT bndT n).length ≤ 4 := by
  unfold pcsN
  (repeat' split) <;> simp [Go.Proofs.YtcgjmnhmhiddkaaGreatDoor.brk]
theorem fullN_len (n : Nd) (lev : Int) : 1 ≤ (fullN clsT bndT n lev).length ∧ (fullN clsT bndT n lev).length ≤ 6 := by
  have := pcsN_len n
  unfold fullN
  split
  · simp [Go.Proofs.YtcgjmnhmhiddkaaGreatDoor.brk]; omega
  · omega
theorem eachR_len (l : List Nd) : ∀ (n : Nat) (told : Nat → Bool) (ps : List Pc) (rem : List (List UInt8)), eachR clsT bndT l n told ps = some rem → ps.length ≤ rem.length
  | 0, told, ps, rem, h => by simp [eachR] at h
  | n + 1, told, [], rem, h => by simp
  | n + 1, told, .sg s :: r, rem, h => by
    rw [eachR, Option.map_eq_some_iff] at h
    obtain ⟨rem2, h1, rfl⟩ := h
    have := eachR_len l n told r rem2 h1
    simp; omega
  | n + 1, told, .nd i lev :: r, rem, h => by
    rw [eachR] at h
    split at h
    · have := eachR_len l n _ _ rem h
      have := (fullN_len (atN l i.toNat) lev).1
      rw [List.length_append] at *
      simp; omega
    · cases h
theorem T10.below {B : Nat} {w w' : World} (h : T10 w) (hg : 3 < B) (hb : Below B w w') : T10 w' := by
  unfold T10 Lib.TabIs World.var? at h ⊢
  rw [show Tryz.prog.globalNamed "internal/strconv.uint64pow10" = some 3 by kernel_rfl] at h ⊢
  simp only [Option.bind_some] at h ⊢
  rw [hb.block _ hg]
  exact h
/-- What each holds. -/
structure EaS (w0 : World) (B0 tb m : Nat) (A : Option Addr) (l : List Nd) (c : Nat) (S : List (List UInt8) → World → Prop) (tl : List Bool) (ps : List Pc) (out : List (List UInt8)) (v : Value) (w : World) : Prop where
  bel : Below B0 w0 w
  row : NRow w A l
  box : Blk w w0.heap.size #[.slice A l.length c] 25
  map : KnM m w
  told : Blk w tb (toldC tl) 4
  own : OwnP w w0.heap.size v ps.reverse
  say : S out w
  t10 : T10 w
section
variable {w0 : World} {B0 tb m : Nat} {A : Option Addr} {l : List Nd} {c : Nat} {S : List (List UInt8) → World → Prop} {tl : List Bool} {ps : List Pc} {out : List (List UInt8)} {v : Value} {w w' : World} {fid : FuncId} {binds : Array Value}
theorem EaS.later (hs : Sayer B0 fid binds S) (hB : B0 ≤ w0.heap.size) (h : EaS w0 B0 tb m A l c S tl ps out v w) (hb : Below w.heap.size w w') : EaS w0 B0 tb m A l c S tl ps out v w' :=
  ⟨h.bel.trans (hb.mono (Nat.le_trans hB h.bel.size)), h.row.later hb, h.box.later hb, h.map.later hb, h.told.later hb, h.own.later hb, hs.keep _ _ _ h.say (MineK.of hb), h.t10.later hb⟩
end
theorem blk_typed {w : World} {b c : Nat} {vs us : Array Value} {t u : TypeId} (h : Blk w b vs t) (k : Blk w c us u) (hne : t ≠ u) : b ≠ c := by
  intro e; subst e
  unfold Blk at h k
  rw [h] at k
  have := Option.some.inj k
  injection this with _ h2
  exact hne h2
theorem blk_gb {w w' : World} {b : Nat} {vs : Array Value} {t : TypeId} {ro : Option Nat} (h : Blk w b vs t) (hne : ro ≠ some b) (hg : w.grownBy w' ro) : Blk w' b vs t := (hg.block b h.lt (fun e => hne e.symm)).trans h
theorem OwnP.oth {w w' : World} {base : Nat} {v : Value} {l : List Pc} (h : OwnP w base v l) (k : OthK w w') : OwnP w' base v l := by
  obtain ⟨h0, ⟨hv, hn⟩ | ⟨g, cap, cur, hv, hb, hg, hr⟩⟩ := h
  · exact ⟨h0, .inl ⟨hv, hn⟩⟩
  · exact ⟨h0, .inr ⟨g, cap, cur, hv, hb, k.blk (show Blk w g cur 92 from hg) (by decide), hr⟩⟩
theorem OwnP.set {w : World} {base : Nat} {v : Value} {l : List Pc} (h : OwnP w base v l) {g : Nat} {vs : Array Value} {t : TypeId} (hb : Blk w g vs t) (ht : t ≠ 92) (o : Nat) (u : Value) : OwnP (w.setCell ⟨g, o, none⟩ u) base v l := by
  obtain ⟨h0, ⟨hv, hn⟩ | ⟨g2, cap, cur, hv, hb2, hg, hr⟩⟩ := h
  · exact ⟨h0, .inl ⟨hv, hn⟩⟩
  · have hk : Blk w g2 cur 92 := hg
    exact ⟨h0, .inr ⟨g2, cap, cur, hv, hb2, hk.setCell_ne (a := ⟨g, o, none⟩) (blk_typed hb hk ht) u, hr⟩⟩
theorem OwnP.own {w : World} {base : Nat} {v : Value} {l : List Pc} (h : OwnP w base v l) {g : Nat} (hg : v.ownBlock = some g) : ∃ cur, Blk w g cur 92 ∧ base ≤ g := by
  obtain ⟨h0, ⟨hv, hn⟩ | ⟨g2, cap, cur, hv, hb2, hk, hr⟩⟩ := h
  · rw [hv] at hg; cases hg
  · rw [hv] at hg; cases hg
    exact ⟨cur, hk, hb2⟩
section
variable {w0 : World} {B0 tb m : Nat} {A : Option Addr} {l : List Nd} {c : Nat} {S : List (List UInt8) → World → Prop} {tl : List Bool} {ps : List Pc} {out : List (List UInt8)} {v : Value} {w w' : World} {fid : FuncId} {binds : Array Value}
/-- What is said leaves what each holds. -/
theorem EaS.said (h : EaS w0 B0 tb m A l c S tl ps out v w) (hA : ∀ b o, A = some ⟨b, o, none⟩ → b < B0) (hg : 3 < B0) {ps' : List Pc} {out' : List (List UInt8)} {v' : Value}
    (hb : Below B0 w w') (k : OthK w w') (hs : S out' w') (ho : OwnP w w0.heap.size v' ps'.reverse) : EaS w0 B0 tb m A l c S tl ps' out' v' w' :=
  ⟨h.bel.trans hb, h.row.below hA hb hb.size, k.blk h.box (by decide), k.kn h.map, k.blk h.told (by decide), ho.oth k, hs, h.t10.below hg hb⟩
/-- A node is told. -/
theorem EaS.tell (hs : Sayer B0 fid binds S) (h : EaS w0 B0 tb m A l c S tl ps out v w) (hA : ∀ b o, A = some ⟨b, o, none⟩ → b < B0) (hg : 3 < B0) (htb : B0 ≤ tb) (q : Nat) :
    EaS w0 B0 tb m A l c S (tl.set q true) ps out v (w.setCell ⟨tb, q, none⟩ (.bool true)) := by
  have hb : Below B0 w (w.setCell ⟨tb, q, none⟩ (.bool true)) := (Below.refl _ _).setCell (p := ⟨tb, q, none⟩) htb _
  exact ⟨h.bel.trans hb, h.row.below hA hb hb.size, h.box.setCell_ne (a := ⟨tb, q, none⟩) (blk_typed h.told h.box (by decide)) _, h.map.set h.told (by decide) _ _, by have := h.told.setCell q (.bool true); rwa [toldC_set] at this, h.own.set h.told (by decide) _ _, hs.keep _ _ _ h.say (MineK.set h.told (by decide) _ _), h.t10.below hg hb⟩
/-- Rows of pieces are written to. -/
theorem EaS.grow (hs : Sayer B0 fid binds S) (hB : B0 ≤ w0.heap.size) (h : EaS w0 B0 tb m A l c S tl ps out v w) (hA : ∀ b o, A = some ⟨b, o, none⟩ → b < B0) (hg : 3 < B0) {ro : Option Nat} (hr : w.grownBy w' ro)
    (hro : ∀ g, ro = some g → ∃ cur, Blk w g cur 92 ∧ w0.heap.size ≤ g) {ps' : List Pc} {v' : Value} (ho : OwnP w' w0.heap.size v' ps'.reverse) : EaS w0 B0 tb m A l c S tl ps' out v' w' := by
  have hb : Below B0 w w' := (Below.refl B0 w).grown hr (Nat.le_trans hB h.bel.size) (fun k hk => by obtain ⟨cur, _, h2⟩ := hro k hk; omega)
  have ne : ∀ {b : Nat} {vs : Array Value} {t : TypeId}, Blk w b vs t → t ≠ 92 → ro ≠ some b := fun {b vs t} hk ht e => by
    obtain ⟨cur, h1, _⟩ := hro b e
    exact blk_typed hk h1 ht rfl
  have hm : KnM m w' := by
    obtain ⟨b8, b9, h1, h2, h3⟩ := h.map
    have hmne : m ≠ m → False := fun e => e rfl
    refine ⟨b8, b9, (hr.block m h1.lt (fun e => ?_)).trans h1, blk_gb h2 (ne h2 (by decide)) hr, blk_gb h3 (ne h3 (by decide)) hr⟩
    obtain ⟨cur, hk, _⟩ := hro m e.symm
    unfold Blk at hk; unfold IsMapK at h1
    rw [hk] at h1; cases h1
  exact ⟨h.bel.trans hb, h.row.below hA hb hb.size, blk_gb h.box (ne h.box (by decide)) hr, hm, blk_gb h.told (ne h.told (by decide)) hr, ho, hs.keep _ _ _ h.say (MineK.grown hr (fun g e => by obtain ⟨cur, h1, _⟩ := hro g e; exact ⟨cur, _, _, h1, by decide⟩)), h.t10.below hg hb⟩
end
def EaL (w0 : World) (B0 tb m : Nat) (A : Option Addr) (l : List Nd) (c : Nat) (S : List (List UInt8) → World → Prop) (total : List (List UInt8)) (kk : Nat) (v : Value) (w : World) : Prop :=
  ∃ tl ps out rem, tl.length = l.length ∧ eachR clsT bndT l kk (toldF tl) ps = some rem ∧ out ++ rem = total ∧ SgOk ps ∧ EaS w0 B0 tb m A l c S tl ps out v w
/-- What each holds while a node's pieces are made. -/
structure EbS (w0 : World) (B0 tb m : Nat) (A : Option Addr) (l : List Nd) (c : Nat) (S : List (List UInt8) → World → Prop) (tl : List Bool) (ps : List Pc) (out : List (List UInt8)) (v : Value) (r : List Pc) (vD : Value) (bp : Nat) (cp : Array Value) (bk : Nat) (ck : Array Value) (w7 : World) (w : World) : Prop where
  e : EaS w0 B0 tb m A l c S tl ps out v w
  d : OwnP w w0.heap.size vD r.reverse
  p : Blk w bp cp 92
  k : Blk w bk ck 97
  b : Below w7.heap.size w7 w
theorem EbS.later {w0 : World} {B0 tb m : Nat} {A : Option Addr} {l : List Nd} {c : Nat} {S : List (List UInt8) → World → Prop} {tl : List Bool} {ps r : List Pc} {out : List (List UInt8)} {v vD : Value} {bp bk : Nat} {cp ck : Array Value} {w w' w7 : World} {fid : FuncId} {binds : Array Value}
    (hs : Sayer B0 fid binds S) (hB : B0 ≤ w0.heap.size) (h : EbS w0 B0 tb m A l c S tl ps out v r vD bp cp bk ck w7 w) (hb : Below w.heap.size w w') : EbS w0 B0 tb m A l c S tl ps out v r vD bp cp bk ck w7 w' :=
  ⟨h.e.later hs hB hb, h.d.later hb, h.p.later hb, h.k.later hb, h.b.trans (hb.mono h.b.size)⟩
theorem made_told (n : Nat) : madeCells #[Value.bool false] n = toldC (List.replicate n false) := by
  unfold madeCells toldC
  apply Array.ext
  · simp
  · intro i h1 h2
    simp [Nat.mod_one]
theorem toldF_none (n : Nat) : toldF (List.replicate n false) = fun _ => false := by
  funext j
  unfold toldF
  rw [List.getD_eq_getElem?_getD, List.getElem?_replicate]
  split <;> rfl
set_option maxHeartbeats 16000000 in
theorem each_any (l : List Nd) (A : Option Addr) (c : Nat) (B0 : Nat) (fid : FuncId) (binds : Array Value) (S : List (List UInt8) → World → Prop) (hs : Sayer B0 fid binds S) (hF : Form l) (hl : l.length ≤ 4096) (hok : ∀ n ∈ l, TeOk n)
    (F : Nat) (total : List (List UInt8)) (hrun : eachR clsT bndT l F (fun _ => false) [.nd ((l.length : Int) - 1) 0] = some total) (htl : lenO total ≤ 1000000000) (htn : total.length ≤ 1000000000)
    (w : World) (hB : B0 ≤ w.heap.size) (hA : ∀ b o, A = some ⟨b, o, none⟩ → b < B0) (hg : 3 < B0) (hrow : NRow w A l) (hT : T10 w) (hS : S [] w) :
    Calls Tryz.prog 27 #[.agg #[.slice A l.length c], .func (.func fid) #[] binds] w (fun e w' => e = .returned (.bool true) ∧ S total w' ∧ Below B0 w w') := by
  have HSAY := Lib.hid hs
  have HOK := Lib.hid hok
  have HA := Lib.hid hA
  have HTL := Lib.hid htl
  have HTN := Lib.hid htn
  have HRUN := Lib.hid hrun
  have hb1 := (Below.refl w.heap.size w).alloc (Nat.le_refl _) (.cells #[.slice A l.length c] 25)
  have HB1 := Lib.hid hb1
  have HR1 := Lib.hid (hrow.later hb1)
  have HT1 := Lib.hid (hT.later hb1)
  have HS1 := Lib.hid (hs.keep _ _ _ hS (MineK.of hb1))
  have HX1 := Lib.hid (Blk.new w #[.slice A l.length c] 25)
  have hpos := hF.1
  have hent := hs.ent
  clear hb1 hrow hT hS hs hok hA htl htn hrun hF
  go_enter Tryz.func27, Tryz.ntmps27
  go_upto_region 1 with (fail)
  generalize w.alloc (.cells #[.slice A l.length c] 25) = w1 at *
  go_wp2_with fail
  refine (kinds_any _).mono ?_; rintro e w2 ⟨m, rfl, hkn, hb⟩
  have HB2 := Lib.hid (HB1.out.trans (hb.mono HB1.out.size))
  have HR2 := Lib.hid (HR1.out.later hb)
  have HT2 := Lib.hid (HT1.out.later hb)
  have HS2 := Lib.hid (HSAY.out.keep _ _ _ HS1.out (MineK.of hb))
  have HX2 := Lib.hid (HX1.out.later hb)
  have HK2 := Lib.hid hkn
  clear hb hkn HB1 HR1 HT1 HS1 HX1
  have e0 := HX2.out.cell 0
  simp at e0
  have hmk : ∀ W : World, (Instr.makeSlice 90 (.int .i64 (l.length : Int)) (.int .i64 (l.length : Int))).run Tryz.prog W = .ok (.slice (some ⟨W.heap.size, 0, none⟩) l.length l.length) (W.alloc (.cells (toldC (List.replicate l.length false)) 4)) := fun W => by
    rw [← made_told]
    exact run_make_row' 90 _ _ 1 Tryz.underlying90 (by kernel_rfl) rfl .i64 .i64 l.length (by omega) (by omega) W
  go_upto_region 3 with (fail)
  clear hmk e0
  have hb3 := (Below.refl w2.heap.size w2).alloc (Nat.le_refl _) (.cells (toldC (List.replicate l.length false)) 4)
  have HB3 := Lib.hid (HB2.out.trans (hb3.mono HB2.out.size))
  have HR3 := Lib.hid (HR2.out.later hb3)
  have HT3 := Lib.hid (HT2.out.later hb3)
  have HS3 := Lib.hid (HSAY.out.keep _ _ _ HS2.out (MineK.of hb3))
  have HX3 := Lib.hid (HX2.out.later hb3)
  have HK3 := Lib.hid (HK2.out.later hb3)
  have HD3 := Lib.hid (Blk.new w2 (toldC (List.replicate l.length false)) 4)
  have hsz2 := HB2.out.size
  clear hb3 HB2 HR2 HT2 HS2 HX2 HK2
  have HTB : Hid (B0 ≤ w2.heap.size) := Nat.le_trans hB hsz2
  clear hsz2
  generalize w2.alloc (.cells (toldC (List.replicate l.length false)) 4) = w3 at *
  generalize w2.heap.size = tb at *
  have e0 := HX3.out.cell 0
  simp at e0
  have hmin : -9223372036854775808 ≤ (l.length : Int) - 1 := by omega
  go_wp2_with fail
  refine (part_any6 _ _ _).mono ?_; rintro e w4 ⟨rfl, hb⟩
  have hb4 := hb.trans ((Below.refl w4.heap.size w4).alloc (Nat.le_refl _) (.cells (pcC (.nd ((l.length : Int) - 1) 0)) 92) |>.mono hb.size)
  have HE4 : Hid (EaS w B0 tb m A l c S (List.replicate l.length false) [.nd ((l.length : Int) - 1) 0] [] (.slice (some ⟨w4.heap.size, 0, none⟩) 1 1) (w4.alloc (.cells (pcC (.nd ((l.length : Int) - 1) 0)) 92))) :=
    ⟨(HB3.out.trans (hb4.mono HB3.out.size)).mono hB, HR3.out.later hb4, HX3.out.later hb4, HK3.out.later hb4, HD3.out.later hb4, (pc_new _ _).lower (Nat.le_trans HB3.out.size hb.size), HSAY.out.keep _ _ _ HS3.out (MineK.of hb4), HT3.out.later hb4⟩
  clear hb hb4 HB3 HR3 HT3 HS3 HX3 HK3 HD3 e0
  unfold pcC at HE4 ⊢
  go_wp2
  generalize w4.alloc (.cells #[.string ⟨#[]⟩, .int .i64 ((l.length : Int) - 1), .int .i64 0] 92) = w5 at *
  go_loopg [7] F (fun kk v wr => EaL w B0 tb m A l c S total kk v wr)
  case atStart => exact ⟨_, _, [], total, List.length_replicate, by rw [toldF_none]; exact HRUN.out, rfl, fun s hs => by simp at hs, HE4.out⟩
  case round =>
    obtain ⟨tl, ps, out, rem, htlen, hrun, htot, hsg, he⟩ := hrel
    have HE := Lib.hid he
    clear he
    cases gk with
    | zero => simp [eachR] at hrun
    | succ n =>
      cases ps with
      | nil =>
        have hrem : rem = [] := by rw [eachR] at hrun; exact (Option.some.inj hrun).symm
        have HTOT : Hid (out = total) := by unfold Hid; rw [← htot, hrem, List.append_nil]
        obtain ⟨a7, c7, rfl, -⟩ := HE.out.own.row
        clear hrun htot hsg hrem
        go_wp2
        go_ret
        exact ⟨rfl, by rw [← HTOT.out]; exact HE.out.say, HE.out.bel⟩
      | cons p r =>
        have hlen := eachR_len l (n + 1) _ _ _ hrun
        have hltot : r.length + 1 ≤ 1000000000 := by
          have h1 : rem.length ≤ total.length := by rw [← htot, List.length_append]; omega
          have h2 := HTN.out
          simp only [List.length_cons] at hlen
          omega
        have hown := HE.out.own
        rw [List.reverse_cons] at hown
        obtain ⟨g, cap, cur, hv, hbg, hblk, hcap, -⟩ := hown.blk (by simp)
        obtain ⟨a7, c7, hv2, hrow7⟩ := hown.row
        have hlr : (r.reverse ++ [p]).length = r.length + 1 := by simp
        rw [hlr] at hv hv2 hcap
        rw [hv] at hv2
        cases hv2
        subst hv
        have HDROP : Hid (OwnP wr w.heap.size (.slice (some ⟨g, 0, none⟩) r.length cap) r.reverse) := by
          have h := OwnP.drop (w := wr) (base := w.heap.size) (g := g) (cap := cap) (l := r.reverse) (p := p) (by rw [List.length_reverse]; exact hown)
          rw [List.length_reverse] at h
          exact h
        have hcells : ∀ j, j < 3 → wr.cell? ⟨g, r.length * 3 + j, none⟩ = (pcC p)[j]? := fun j hj => by
          obtain ⟨b', off, hA', _, hc⟩ := hrow7 r.length (by rw [hlr]; omega)
          cases hA'
          have h1 := hc j hj
          rw [Nat.zero_add] at h1
          rw [h1]
          congr 1
          rw [List.getD_eq_getElem?_getD, List.getElem?_append_right (by simp), List.length_reverse, Nat.sub_self]; rfl
        have c0 := hcells 0 (by omega)
        have c1 := hcells 1 (by omega)
        have c2 := hcells 2 (by omega)
        have hcapz : (r.length : Int) ≤ (cap : Int) := by omega
        have hrz : (0 : Int) ≤ (r.length : Int) := by omega
        clear hown hrow7 hblk hcells hlr hcap hlen
        cases p with
        | sg s =>
          have hsne : s ≠ [] := hsg s (by simp)
          have HSG := Lib.hid (hsg.tail)
          rw [eachR, Option.map_eq_some_iff] at hrun
          obtain ⟨rem2, hrun2, rfl⟩ := hrun
          have HRUN2 := Lib.hid hrun2
          have HTOT : Hid ((out ++ [s]) ++ rem2 = total) := by unfold Hid; rw [← htot, List.append_assoc]; rfl
          have hq : (bs s == ⟨#[]⟩) = false := by
            have := bs_beq s []
            rw [decide_eq_false hsne] at this
            exact this
          have hq2 : (bs s != ⟨#[]⟩) = true := by unfold bne; rw [hq]; rfl
          have hq3 : (bs s).toList.isEmpty = false := by rw [bs_toList]; cases s with | nil => exact absurd rfl hsne | cons x y => rfl
          have hq4 : ¬ (bs s).toList = [] := by rw [bs_toList]; exact hsne
          clear hrun2 htot hsg hsne
          simp only [pcC, Nat.add_zero] at c0 c1 c2
          simp at c0 c1 c2
          have hb1 := (Below.refl wr.heap.size wr).alloc (Nat.le_refl _) (.cells #[.string (bs s), .int .i64 0, .int .i64 0] 92)
          have HE1 := Lib.hid (HE.out.later HSAY.out hB hb1)
          have HD1 := Lib.hid (HDROP.out.later hb1)
          have HP1 := Lib.hid (Blk.new wr #[.string (bs s), .int .i64 0, .int .i64 0] 92)
          clear hb1
          go_upto_region 6 with (fail)
          clear c0 c1 c2
          generalize wr.alloc (.cells #[.string (bs s), .int .i64 0, .int .i64 0] 92) = w6 at *
          generalize wr.heap.size = bp at *
          have p0 := HP1.out.cell 0
          have p1 := HP1.out.cell 1
          have p2 := HP1.out.cell 2
          simp at p0 p1 p2
          go_wp2_with fail
          have hlo : lenO (out ++ [s]) ≤ 1000000000 := by
            have h1 := HTL.out
            rw [← HTOT.out, lenO_append] at h1
            omega
          have hlo2 : (out ++ [s]).length ≤ 1000000000 := by
            have h1 := HTN.out
            rw [← HTOT.out, List.length_append] at h1
            omega
          refine (HSAY.out.call out s w6 HE1.out.say (Nat.le_trans hB HE1.out.bel.size) hlo hlo2).mono ?_; rintro e w7 ⟨rfl, hsay, hbel, hoth⟩
          have HE7 := Lib.hid (HE1.out.said HA.out hg hbel hoth hsay HD1.out)
          clear hsay hbel hoth hlo hlo2 p0 p1 p2 hq hq2 hq3 hq4
          go_wp2
          go_roundg n
          case measure => omega
          case rel => exact ⟨tl, r, out ++ [s], rem2, htlen, HRUN2.out, HTOT.out, HSG.out, HE7.out⟩
        | nd i lev =>
          rw [eachR] at hrun
          split at hrun
          · rename_i hcond
            obtain ⟨h0, h1, htq, hk1, hk9⟩ := hcond
            obtain ⟨q, rfl⟩ := Int.eq_ofNat_of_zero_le h0
            rw [Int.toNat_natCast] at hrun htq hk1 hk9
            have hql : q < l.length := by omega
            have hqz : (q : Int) < (l.length : Int) := h1
            have HRUN2 : Hid (eachR clsT bndT l n (toldF (tl.set q true)) (fullN clsT bndT (atN l q) lev ++ r) = some rem) := by
              unfold Hid; rw [toldF_set (by omega)]; exact hrun
            have HTOT := Lib.hid htot
            have HSG : Hid (SgOk (fullN clsT bndT (atN l q) lev ++ r)) := (fullN_ok _ _).append hsg.tail
            have htd : tl.getD q false = false := htq
            have ht0 := HE.out.told.cell q
            rw [toldC_get (by omega), htd] at ht0
            have htf := HE.out.told.frozen q
            have hkq : TeOk (atN l q) := HOK.out _ (by unfold atN; rw [List.getD_eq_getElem?_getD, List.getElem?_eq_getElem hql]; exact List.getElem_mem _)
            have HKQ := Lib.hid hkq
            obtain ⟨ba, oa, hAe, -, -⟩ := HE.out.row q hql
            subst hAe
            clear hrun htot hsg h0 h1 htd htq hk1 hk9 hkq
            simp only [pcC, Nat.add_zero] at c0 c1 c2
            simp at c0 c1 c2
            have hb1 := (Below.refl wr.heap.size wr).alloc (Nat.le_refl _) (.cells #[.string ⟨#[]⟩, .int .i64 (q : Int), .int .i64 lev] 92)
            have HE1 := Lib.hid (HE.out.later HSAY.out hB hb1)
            have HD1 := Lib.hid (HDROP.out.later hb1)
            have HP1 := Lib.hid (Blk.new wr #[.string ⟨#[]⟩, .int .i64 (q : Int), .int .i64 lev] 92)
            have HGP : Hid (Value.ownBlock (.slice (some ⟨g, 0, none⟩) r.length cap) ≠ some wr.heap.size) := by
              intro e
              have := (World.ownsRow.lt HDROP.out _ e).2
              omega
            have ht1 : (wr.alloc (.cells #[.string ⟨#[]⟩, .int .i64 (q : Int), .int .i64 lev] 92)).cell? ⟨tb, q, none⟩ = some (.bool false) := (hb1.cell (p := ⟨tb, q, none⟩) HE.out.told.lt).trans ht0
            clear hb1 ht0 htf
            go_upto_region 6 with (fail)
            clear c0 c1 c2
            generalize wr.alloc (.cells #[.string ⟨#[]⟩, .int .i64 (q : Int), .int .i64 lev] 92) = w6 at *
            generalize wr.heap.size = bp at *
            have p0 := HP1.out.cell 0
            have p1 := HP1.out.cell 1
            have p2 := HP1.out.cell 2
            have e0 := HE1.out.box.cell 0
            have htf := HE1.out.told.frozen q
            simp at p0 p1 p2 e0
            go_upto_region 11 with (fail)
            have HE2 := Lib.hid (HE1.out.tell HSAY.out HA.out hg HTB.out q)
            have HD2 := Lib.hid (HD1.out.set HE1.out.told (by decide) q (.bool true))
            have HP2 := Lib.hid (HP1.out.setCell_ne (a := ⟨tb, q, none⟩) (blk_typed HE1.out.told HP1.out (by decide)) (.bool true))
            go_upto_region 12 with (fail)
            clear e0 p0 p1 p2 ht1 htf HE1 HD1 HP1
            generalize w6.setCell ⟨tb, q, none⟩ (.bool true) = w7 at *
            have p0 := HP2.out.cell 0
            have p1 := HP2.out.cell 1
            have p2 := HP2.out.cell 2
            have e0 := HE2.out.box.cell 0
            simp at p0 p1 p2 e0
            have hat : At10 w7 ba (oa + q * 10) (l.getD q nd0) := HE2.out.row.at hql rfl
            have hatn : atN l q = l.getD q nd0 := rfl
            rw [hatn] at HKQ HRUN2 HSG
            have HROWN := Lib.hid (fun (w' : World) (hh : NRow w' (some ⟨ba, oa, none⟩) l) => (hh.at hql rfl : At10 w' ba (oa + q * 10) (l.getD q nd0)))
            generalize l.getD q nd0 = nn at *
            obtain ⟨fK, bd, hlk, hentK, hcallK⟩ := kind_at nn HKQ.out m w7 HE2.out.map
            have HCK := Lib.hid hcallK
            have g0 : w7.cell? ⟨ba, oa + q * 10, none⟩ = some (.int .i64 nn.kind) := hat.1
            clear hat hatn hcallK
            have hb2 := (Below.refl w7.heap.size w7).alloc (Nat.le_refl _) (.cells #[.int .i64 (levK nn.kind), .func (.func fK) #[] bd] 97)
            have HB2 := Lib.hid hb2
            have HE3 := Lib.hid (HE2.out.later HSAY.out hB hb2)
            have HD3 := Lib.hid (HD2.out.later hb2)
            have HP3 := Lib.hid (HP2.out.later hb2)
            have HK3 := Lib.hid (Blk.new w7 #[.int .i64 (levK nn.kind), .func (.func fK) #[] bd] 97)
            clear hb2 HE2 HD2 HP2
            go_upto_region 15 with (fail)
            clear e0 p0 p1 p2 g0 hlk
            generalize hbk : w7.heap.size = bk at *
            have HBK := Lib.hid hbk
            clear hbk
            rw [← HBK.out] at HB2
            obtain ⟨w8, hw8⟩ : ∃ w8, w8 = w7.alloc (.cells #[.int .i64 (levK nn.kind), .func (.func fK) #[] bd] 97) := ⟨_, rfl⟩
            rw [← hw8] at HB2 HE3 HD3 HP3 HK3 ⊢
            clear hw8
            have HS8 : Hid ((EbS w B0 tb m (some ⟨ba, oa, none⟩) l c S (tl.set q true) (.nd (q : Int) lev :: r) out (.slice (some ⟨g, 0, none⟩) (r.length + 1) cap) r (.slice (some ⟨g, 0, none⟩) r.length cap) bp #[.string ⟨#[]⟩, .int .i64 (q : Int), .int .i64 lev] bk #[.int .i64 (levK nn.kind), .func (.func fK) #[] bd] w7) w8) := ⟨HE3.out, HD3.out, HP3.out, HK3.out, HB2.out⟩
            clear HE3 HD3 HP3 HK3 HB2
            refine wp_region_stable_tail 8 (S := (EbS w B0 tb m (some ⟨ba, oa, none⟩) l c S (tl.set q true) (.nd (q : Int) lev :: r) out (.slice (some ⟨g, 0, none⟩) (r.length + 1) cap) r (.slice (some ⟨g, 0, none⟩) r.length cap) bp #[.string ⟨#[]⟩, .int .i64 (q : Int), .int .i64 lev] bk #[.int .i64 (levK nn.kind), .func (.func fK) #[] bd] w7)) (hSt := fun _ _ h hb => h.later HSAY.out hB hb) (plan := [[(9, none)], [(80, some 0)], [(2, none)], [(82, some 2)], [(8, none)], [(84, some 4)], [(83, some 3), (85, some 5)], [(86, some 6)]]) rfl rfl (by kernel_rfl) (by kernel_rfl) (by kernel_rfl) (by kernel_rfl) ?hS ?_
            rotate_left
            iterate 8 first
              | (refine chain_skip (by rfl) (by rfl) ?_)
              | (apply chain_want (by rfl)
                 · intro act wx hS hr
                   simp at hr
                   have e0 := hS.e.box.cell 0
                   have p1 := hS.p.cell 1
                   have k1 := hS.k.cell 1
                   simp at e0 p1 k1
                   obtain ⟨g0, g1, g2, g3, g4, g5, g6, g7, g8, g9⟩ := HROWN.out wx hS.e.row
                   go_simp
                   (try go_ints)
                   first
                     | exact Done.same
                )
            show ∀ w', _ → _
            intro wz hz
            simp [Act.put]
            case hS => exact HS8.out
            have HZ := Lib.hid hz
            clear hz HS8
            have HCZ : Hid (Calls Tryz.prog fK (#[.agg (ndC nn)] ++ bd) wz (PcPost wz (pcsN clsT bndT nn))) := HCK.out wz (by rw [← HBK.out]; exact HZ.out.b) HZ.out.e.t10
            unfold ndC at HCZ
            have hpl := pcsN_len nn
            have hfl := fullN_len nn lev
            have hful : fullN clsT bndT nn lev = if levK nn.kind < lev then brk (pcsN clsT bndT nn) else pcsN clsT bndT nn := rfl
            have HFL := Lib.hid hful
            clear hful HCK HROWN
            go_wp2_with fail
            refine HCZ.out.mono ?_; rintro e w9 ⟨u, rfl, ho9, hb9⟩
            have HE9 := Lib.hid (HZ.out.later HSAY.out hB hb9)
            have HO9 := Lib.hid ho9
            have HGZ : Hid (g < wz.heap.size) := (World.ownsRow.lt HZ.out.d g rfl).2
            have HWZ : Hid (w.heap.size ≤ wz.heap.size) := HZ.out.e.bel.size
            clear ho9 hb9 HCZ HZ
            have k0 := HE9.out.k.cell 0
            have p2 := HE9.out.p.cell 2
            simp at k0 p2
            by_cases hlv : levK nn.kind < lev
            · obtain ⟨L, hL⟩ : ∃ L, L = fullN clsT bndT nn lev := ⟨_, rfl⟩
              have hLb : L = brk (pcsN clsT bndT nn) := by rw [hL, HFL.out, if_pos hlv]
              rw [← hL] at HRUN2 HSG hfl
              have HBR := Lib.hid (bracketed_any (pcsN clsT bndT nn) (by omega) _ w9 (HO9.out.rowOr (by omega)))
              rw [← hLb] at HBR
              clear hL hLb HFL
              generalize pcsN clsT bndT nn = pc at *
              go_wp2_with fail
              refine HBR.out.mono ?_; rintro e wU ⟨u2, rfl, ho, hb⟩
              have HOU := Lib.hid ho
              have HEU := Lib.hid (HE9.out.e.later HSAY.out hB hb)
              have HDU := Lib.hid (HE9.out.d.later hb)
              have HGU : Hid (g < w9.heap.size) := (World.ownsRow.lt HE9.out.d g rfl).2
              have HBU : Hid (w.heap.size ≤ w9.heap.size) := HE9.out.e.bel.size
              have HLP : Hid (0 < L.length) := by unfold Hid; omega
              have HLB : Hid (L.length ≤ 1000) := by unfold Hid; omega
              clear ho hb HE9 HBR HO9 k0 p2
              obtain ⟨g2, c2, cur2, hv2, -⟩ := HOU.out.blk HLP.out
              have hgg : g2 ≠ g := by
                obtain ⟨_, _, h1⟩ := HOU.out.own (g := g2) (by rw [hv2]; rfl)
                have h2 := HGU.out
                omega
              subst hv2
              go_wp2_with fail
              refine (rev_any HOU.out HLP.out HLB.out).mono ?_; rintro e wR ⟨rfl, hoR, hgR⟩
              have HOR := Lib.hid hoR
              have HDR : Hid (OwnP wR w.heap.size (.slice (some ⟨g, 0, none⟩) r.length cap) r.reverse) := World.ownsRow.kept HDU.out hgR (Or.inr (fun e => hgg (Option.some.inj e).symm))
              have HER : Hid (EaS w B0 tb m (some ⟨ba, oa, none⟩) l c S (tl.set q true) r out (.slice (some ⟨g, 0, none⟩) r.length cap) wR) := HEU.out.grow HSAY.out hB HA.out hg hgR (fun g3 e => by obtain ⟨cur3, h1, h2⟩ := HOU.out.own e; exact ⟨cur3, h1, Nat.le_trans HBU.out h2⟩) HDR.out
              clear hoR hgR
              obtain ⟨aR, cR, hvR, hrR⟩ := HOR.out.row
              rw [List.length_reverse] at hvR
              cases hvR
              have HRR := Lib.hid hrR
              have hlowR : w.heap.size ≤ wR.heap.size := HER.out.bel.size
              have HLR : Hid (0 < L.reverse.length) := by unfold Hid; rw [List.length_reverse]; exact HLP.out
              have HLS : Hid (r.reverse.length + L.reverse.length < 1073741824) := by unfold Hid; have := HLB.out; rw [List.length_reverse, List.length_reverse]; omega
              have hrl : r.reverse.length = r.length := List.length_reverse
              have hll : L.reverse.length = L.length := List.length_reverse
              clear hrR
              go_wp2_with (at_builtin; refine wpList_append_prow rfl _ _ rfl w.heap.size _ r.reverse rfl HDR.out g2 0 c2 L.reverse (by rw [hll]; rfl) HRR.out HLR.out HLS.out hlowR ?_; intro v' wQ h1 h2; rw [← List.reverse_append] at h1; have HOQ := Lib.hid h1; have HEQ : Hid (EaS w B0 tb m (some ⟨ba, oa, none⟩) l c S (tl.set q true) (L ++ r) out v' wQ) := HER.out.grow HSAY.out hB HA.out hg h2 (fun g3 e => by obtain ⟨cur3, h3, h4⟩ := HDR.out.own e; exact ⟨cur3, h3, h4⟩) h1; clear h1 h2)
              go_roundg n
              case measure => omega
              case rel => exact ⟨tl.set q true, L ++ r, out, rem, by rw [List.length_set]; exact htlen, HRUN2.out, HTOT.out, HSG.out, HEQ.out⟩
            · obtain ⟨L, hL⟩ : ∃ L, L = fullN clsT bndT nn lev := ⟨_, rfl⟩
              have hLb : L = pcsN clsT bndT nn := by rw [hL, HFL.out, if_neg hlv]
              rw [← hL] at HRUN2 HSG hfl
              rw [← hLb] at HO9
              clear hL hLb HFL hpl
              have HOU := HO9
              have HEU := Lib.hid HE9.out.e
              have HDU := Lib.hid HE9.out.d
              have HGU := HGZ
              have HBU := HWZ
              have HLP : Hid (0 < L.length) := by unfold Hid; omega
              have HLB : Hid (L.length ≤ 1000) := by unfold Hid; omega
              clear HO9
              obtain ⟨g2, c2, cur2, hv2, -⟩ := HOU.out.blk HLP.out
              have hgg : g2 ≠ g := by
                obtain ⟨_, _, h1⟩ := HOU.out.own (g := g2) (by rw [hv2]; rfl)
                have h2 := HGU.out
                omega
              subst hv2
              go_wp2_with fail
              refine (rev_any HOU.out HLP.out HLB.out).mono ?_; rintro e wR ⟨rfl, hoR, hgR⟩
              have HOR := Lib.hid hoR
              have HDR : Hid (OwnP wR w.heap.size (.slice (some ⟨g, 0, none⟩) r.length cap) r.reverse) := World.ownsRow.kept HDU.out hgR (Or.inr (fun e => hgg (Option.some.inj e).symm))
              have HER : Hid (EaS w B0 tb m (some ⟨ba, oa, none⟩) l c S (tl.set q true) r out (.slice (some ⟨g, 0, none⟩) r.length cap) wR) := HEU.out.grow HSAY.out hB HA.out hg hgR (fun g3 e => by obtain ⟨cur3, h1, h2⟩ := HOU.out.own e; exact ⟨cur3, h1, Nat.le_trans HBU.out h2⟩) HDR.out
              clear hoR hgR
              obtain ⟨aR, cR, hvR, hrR⟩ := HOR.out.row
              rw [List.length_reverse] at hvR
              cases hvR
              have HRR := Lib.hid hrR
              have hlowR : w.heap.size ≤ wR.heap.size := HER.out.bel.size
              have HLR : Hid (0 < L.reverse.length) := by unfold Hid; rw [List.length_reverse]; exact HLP.out
              have HLS : Hid (r.reverse.length + L.reverse.length < 1073741824) := by unfold Hid; have := HLB.out; rw [List.length_reverse, List.length_reverse]; omega
              have hrl : r.reverse.length = r.length := List.length_reverse
              have hll : L.reverse.length = L.length := List.length_reverse
              clear hrR
              go_wp2_with (at_builtin; refine wpList_append_prow rfl _ _ rfl w.heap.size _ r.reverse rfl HDR.out g2 0 c2 L.reverse (by rw [hll]; rfl) HRR.out HLR.out HLS.out hlowR ?_; intro v' wQ h1 h2; rw [← List.reverse_append] at h1; have HOQ := Lib.hid h1; have HEQ : Hid (EaS w B0 tb m (some ⟨ba, oa, none⟩) l c S (tl.set q true) (L ++ r) out v' wQ) := HER.out.grow HSAY.out hB HA.out hg h2 (fun g3 e => by obtain ⟨cur3, h3, h4⟩ := HDR.out.own e; exact ⟨cur3, h3, h4⟩) h1; clear h1 h2)
              go_roundg n
              case measure => omega
              case rel => exact ⟨tl.set q true, L ++ r, out, rem, by rw [List.length_set]; exact htlen, HRUN2.out, HTOT.out, HSG.out, HEQ.out⟩
          · cases hrun
end Go.Proofs.YtcgjmnhmhiddkaaGreatDoor
/- Text, Deep: walked. -/
namespace Go.Proofs.YtcgjmnhmhiddkaaGreatDoor
open Go Go.RowKit
set_option linter.unusedVariables false
set_option linter.unusedSimpArgs false
set_option maxRecDepth 100000

/-- What Deep's boxes hold. -/
def DpS (B b1 b2 : Nat) (out : List (List UInt8)) (w : World) : Prop := B ≤ b1 ∧ B ≤ b2 ∧ b1 ≠ b2 ∧ Blk w b1 #[.int .i64 (out.foldl dstep (0, 0)).1] 3 ∧ Blk w b2 #[.int .i64 (out.foldl dstep (0, 0)).2] 3
theorem dp_bound : ∀ (o : List (List UInt8)) (a m : Int), a ≤ m → a - (o.length : Int) ≤ (o.foldl dstep (a, m)).1 ∧ (o.foldl dstep (a, m)).1 ≤ a + (o.length : Int) ∧ (o.foldl dstep (a, m)).1 ≤ (o.foldl dstep (a, m)).2 ∧ (o.foldl dstep (a, m)).2 ≤ max m (a + (o.length : Int))
  | [], a, m, h => by simp; omega
  | s :: o, a, m, h => by
    have e : dstep (a, m) s = (if s = [40] then (a + 1, max m (a + 1)) else if s = [41] then (a - 1, m) else (a, m)) := rfl
    rw [List.foldl_cons, e]
    split
    · have := dp_bound o (a + 1) (max m (a + 1)) (by omega)
      simp only [List.length_cons]; omega
    · split
      · have := dp_bound o (a - 1) m (by omega)
        simp only [List.length_cons]; omega
      · have := dp_bound o a m h
        simp only [List.length_cons]; omega
set_option maxHeartbeats 4000000 in
theorem deep1_any (B b1 b2 : Nat) (out : List (List UInt8)) (s : List UInt8) (w : World) (h : DpS B b1 b2 out w) (hl : (out ++ [s]).length ≤ 1000000000) :
    Calls Tryz.prog 28 #[.string (bs s), .pointer (some ⟨b1, 0, none⟩), .pointer (some ⟨b2, 0, none⟩)] w (fun e w' => e = .returned (.tuple #[]) ∧ DpS B b1 b2 (out ++ [s]) w' ∧ Below B w w' ∧ OthK w w') := by
  obtain ⟨hB1, hB2, hne, k1, k2⟩ := h
  have hbd := dp_bound out 0 0 (by omega)
  rw [List.length_append] at hl
  have hst : (out ++ [s]).foldl dstep (0, 0) = dstep (out.foldl dstep (0, 0)) s := by rw [List.foldl_append]; rfl
  unfold DpS
  rw [hst]
  generalize out.foldl dstep (0, 0) = p at *
  obtain ⟨o, m⟩ := p
  simp only at k1 k2 hbd ⊢
  have hn : (out.length : Int) ≤ 1000000000 := by omega
  clear hst hl
  have ho1 : -1000000000 ≤ o := by omega
  have ho2 : o ≤ 1000000000 := by omega
  have hm1 : o ≤ m := hbd.2.2.1
  have hm2 : m ≤ 1000000000 := by omega
  clear hbd hn
  have c1 := k1.cell 0
  have c2 := k2.cell 0
  have f1 := k1.frozen 0
  have f2 := k2.frozen 0
  simp at c1 c2
  have K1 := Lib.hid k1
  have K2 := Lib.hid k2
  clear k1 k2
  have oth : ∀ (w' : World) (b : Nat) (cs : Array Value) (v : Value), Blk w' b cs 3 → OthK w' (w'.setCell ⟨b, 0, none⟩ v) := fun w' b cs v hb i x hi h1 h2 h3 => by
    rw [Below.heap_setCell _ _ _ _ (fun e => ?_)]
    · exact hi
    · subst e
      unfold Blk at hb
      have hi' : w'.heap[i]? = some x := hi
      rw [hb] at hi'; cases hi'
      exact h2 _ _ rfl
  have OTH := Lib.hid oth
  clear oth
  by_cases h40 : s = [40]
  · subst h40
    have q1 : ((bs [40]).toList == [40]) = true := by rw [bs_toList]; rfl
    have hd : dstep (o, m) [40] = (o + 1, max m (o + 1)) := rfl
    have HD := Lib.hid hd
    clear hd
    have g1 := Lib.hid (K1.out.setCell 0 (.int .i64 (o + 1)))
    have g2 := Lib.hid (K2.out.setCell_ne (a := ⟨b1, 0, none⟩) hne (.int .i64 (o + 1)))
    have c3 := g1.out.cell 0
    have c4 := g2.out.cell 0
    have f3 := g2.out.frozen 0
    simp at c3 c4
    go_enter Tryz.func28, Tryz.ntmps28
    go_wp2
    go_end0
    have b1' : Below B w (w.setCell ⟨b1, 0, none⟩ (.int .i64 (o + 1))) := (Below.refl _ _).setCell (p := ⟨b1, 0, none⟩) hB1 _
    refine ⟨rfl, ⟨hB1, hB2, hne, ?_, ?_⟩, b1'.setCell (p := ⟨b2, 0, none⟩) hB2 _, fun i x hi h1 h2 h3 => OTH.out _ b2 _ _ g2.out i x (OTH.out _ b1 _ _ K1.out i x hi h1 h2 h3) h1 h2 h3⟩
    · rw [HD.out]; exact g1.out.setCell_ne (a := ⟨b2, 0, none⟩) (Ne.symm hne) _
    · rw [HD.out]; exact g2.out.setCell 0 _
  · by_cases h41 : s = [41]
    · subst h41
      have q1 : ((bs [41]).toList == [40]) = false := by rw [bs_toList]; rfl
      have q2 : ((bs [41]).toList == [41]) = true := by rw [bs_toList]; rfl
      have hd : dstep (o, m) [41] = (o - 1, m) := rfl
      have HD := Lib.hid hd
      clear hd
      go_enter Tryz.func28, Tryz.ntmps28
      go_wp2
      go_end0
      exact ⟨rfl, by rw [HD.out]; exact ⟨hB1, hB2, hne, K1.out.setCell 0 _, K2.out.setCell_ne (a := ⟨b1, 0, none⟩) hne _⟩, (Below.refl _ _).setCell (p := ⟨b1, 0, none⟩) hB1 _, OTH.out _ b1 _ _ K1.out⟩
    · have q1 : ((bs s).toList == [40]) = false := by rw [bs_toList, beq_eq_false_iff_ne]; exact h40
      have q2 : ((bs s).toList == [41]) = false := by rw [bs_toList, beq_eq_false_iff_ne]; exact h41
      have hd : dstep (o, m) s = (o, m) := by unfold dstep; rw [if_neg h40, if_neg h41]
      have HD := Lib.hid hd
      clear hd h40 h41
      go_enter Tryz.func28, Tryz.ntmps28
      go_wp2
      go_end0
      exact ⟨rfl, by rw [HD.out]; exact ⟨hB1, hB2, hne, K1.out, K2.out⟩, Below.refl _ _, fun i x hi _ _ _ => hi⟩
theorem deep_sayer (B b1 b2 : Nat) : Sayer B 28 #[.pointer (some ⟨b1, 0, none⟩), .pointer (some ⟨b2, 0, none⟩)] (DpS B b1 b2) :=
  ⟨enters_of Tryz.func28 (by kernel_rfl) rfl, fun out s w h hB _ hl => deep1_any B b1 b2 out s w h hl, fun out w w' h k => ⟨h.1, h.2.1, h.2.2.1, k.2 _ _ _ _ h.2.2.2.1 (.inr (.inl rfl)), k.2 _ _ _ _ h.2.2.2.2 (.inr (.inl rfl))⟩⟩
/-- A description whose text is told. -/
structure PrOk (l : List Nd) : Prop where
  form : Form l
  len : l.length ≤ 4096
  txt : ∀ n ∈ l, n.text.length ≤ 2000
theorem PrOk.te {l : List Nd} (h : PrOk l) : ∀ n ∈ l, TeOk n := fun n hn => by
  obtain ⟨i, hi, rfl⟩ := List.mem_iff_getElem.1 hn
  have e : atN l i = l[i] := by unfold atN; rw [List.getD_eq_getElem?_getD, List.getElem?_eq_getElem hi]; rfl
  have ho := h.form.2.1 i hi
  rw [e] at ho
  have ht := h.txt _ hn
  obtain ⟨_, hk⟩ := ho
  exact ⟨by omega, by omega, fun h7 => by omega⟩
def sgsL (l : List Nd) : List (List UInt8) := sgsF clsT bndT l l.length ((l.length : Int) - 1) 0
theorem sgs_ne (l : List Nd) : ∀ (f : Nat) (i lev : Int), ∀ s ∈ sgsF clsT bndT l f i lev, s ≠ []
  | 0, i, lev, s, h => by cases h
  | f + 1, i, lev, s, h => by
    unfold sgsF at h
    rw [List.mem_flatMap] at h
    obtain ⟨p, hp, hs⟩ := h
    cases p with
    | sg t =>
      simp at hs
      subst hs
      exact fullN_ok _ _ _ hp
    | nd j lv => exact sgs_ne l f j lv s hs
theorem len_lenO : ∀ (o : List (List UInt8)), (∀ s ∈ o, s ≠ []) → o.length ≤ lenO o
  | [], _ => Nat.zero_le _
  | s :: o, h => by
    have h1 := len_lenO o (fun t ht => h t (List.mem_cons_of_mem _ ht))
    have h2 : 0 < s.length := List.length_pos_iff.2 (h s (by simp))
    rw [lenO_cons, List.length_cons]; omega
theorem PrOk.run {l : List Nd} (h : PrOk l) : ∃ F, eachR clsT bndT l F (fun _ => false) [.nd ((l.length : Int) - 1) 0] = some (sgsL l) := by
  obtain ⟨k, t, hk⟩ := told_text h.form
  refine ⟨1 + k, ?_⟩
  rw [hk 1 []]
  show some (sgsL l ++ []) = _
  rw [List.append_nil]
theorem PrOk.lens {l : List Nd} (h : PrOk l) : lenO (sgsL l) ≤ 1000000000 ∧ (sgsL l).length ≤ 1000000000 := by
  have h1 := textN_len h.form h.txt
  have h2 := h.len
  have h3 : lenO (sgsL l) = (textN l).length := rfl
  have h4 := len_lenO (sgsL l) (sgs_ne l _ _ _)
  omega
end Go.Proofs.YtcgjmnhmhiddkaaGreatDoor
/- Text, Deep: walked, whole. -/
namespace Go.Proofs.YtcgjmnhmhiddkaaGreatDoor
open Go Go.RowKit
set_option linter.unusedVariables false
set_option linter.unusedSimpArgs false
set_option maxRecDepth 100000

theorem T10.lt {w : World} (h : T10 w) : 3 < w.heap.size := by
  unfold T10 Lib.TabIs World.var? at h
  rw [show Tryz.prog.globalNamed "internal/strconv.uint64pow10" = some 3 by kernel_rfl] at h
  simp only [Option.bind_some] at h
  rcases Nat.lt_or_ge 3 w.heap.size with h' | h'
  · exact h'
  · rw [Array.getElem?_eq_none h'] at h; cases h
theorem row_low {l : List Nd} {A : Option Addr} {w : World} (h : NRow w A l) (hp : 0 < l.length) : ∀ b o, A = some ⟨b, o, none⟩ → b < w.heap.size := fun b o e => by
  obtain ⟨b', o', h1, h2, _⟩ := h 0 hp
  rw [e] at h1; cases h1; exact h2
set_option maxHeartbeats 8000000 in
theorem pdeep_any (l : List Nd) (hp : PrOk l) (A : Option Addr) (c : Nat) (w : World) (hrow : NRow w A l) (hT : T10 w) :
    Calls Tryz.prog 14 #[.agg #[.slice A l.length c]] w (Ans w (.int .i64 ((deepN l : Nat) : Int))) := by
  obtain ⟨F, hrun⟩ := hp.run
  obtain ⟨hl1, hl2⟩ := hp.lens
  have hdp : (sgsL l).foldl dstep (0, 0) = (0, (deepN l : Int)) := deep_pieces l
  have hb1 := (Below.refl w.heap.size w).alloc (Nat.le_refl _) (.cells #[.slice A l.length c] 25)
  have hb2 := hb1.alloc hb1.size (.cells #[.int .i64 0] 3)
  have hb3 := hb2.alloc hb2.size (.cells #[.int .i64 0] 3)
  have hS : DpS w.heap.size (w.heap.size + 1) (w.heap.size + 1 + 1) [] (((w.alloc (.cells #[.slice A l.length c] 25)).alloc (.cells #[.int .i64 0] 3)).alloc (.cells #[.int .i64 0] 3)) :=
    ⟨by omega, by omega, by omega, (show Blk ((w.alloc (.cells #[.slice A l.length c] 25)).alloc (.cells #[.int .i64 0] 3)) (w.heap.size + 1) #[.int .i64 0] 3 from Blk.new' (by simp) _ _).alloc _, (show Blk (((w.alloc (.cells #[.slice A l.length c] 25)).alloc (.cells #[.int .i64 0] 3)).alloc (.cells #[.int .i64 0] 3)) (w.heap.size + 1 + 1) #[.int .i64 0] 3 from Blk.new' (by simp) _ _)⟩
  have CE := Lib.hid (each_any l A c w.heap.size _ _ _ (deep_sayer w.heap.size (w.heap.size + 1) (w.heap.size + 1 + 1)) hp.form hp.len hp.te F (sgsL l) hrun hl1 hl2 _ hb3.size (row_low hrow hp.form.1) hT.lt (hrow.later hb3) (hT.later hb3) hS)
  have HB3 := Lib.hid hb3
  have HDP := Lib.hid hdp
  clear hb1 hb2 hb3 hS hrun hl1 hl2 hrow hT hp hdp
  generalize deepN l = v at *
  generalize sgsL l = tot at *
  go_enter Tryz.func14, Tryz.ntmps14
  go_upto_region 2 with (fail)
  go_wp2_with fail
  refine CE.out.mono ?_; rintro e w4 ⟨rfl, ⟨-, -, -, -, k2⟩, hb4⟩
  have HB4 := Lib.hid (HB3.out.trans hb4)
  rw [HDP.out] at k2
  have c2 := k2.cell 0
  simp at c2
  clear hb4 CE k2
  go_wp2
  go_ret
  exact ⟨rfl, HB4.out⟩
end Go.Proofs.YtcgjmnhmhiddkaaGreatDoor
