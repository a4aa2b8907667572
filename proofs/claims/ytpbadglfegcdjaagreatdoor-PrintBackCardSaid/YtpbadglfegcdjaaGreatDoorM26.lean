/- What each calls: a kind's pieces out of the table, the one who says. -/
import Derived.Test.YtpbadglfegcdjaaGreatDoorM25
import Derived.Test.YtpbadglfegcdjaaGreatDoorM19
import Derived.Test.YtpbadglfegcdjaaGreatDoorM13
import Derived.Laws.MakeOwn
namespace Go.Proofs.YtpbadglfegcdjaaGreatDoor
open Go Go.RowKit
set_option linter.unusedVariables false
set_option linter.unusedSimpArgs false
set_option maxRecDepth 100000

/-- The one who says keeps all but rows of bytes, numbers, builders. -/
def OthK (w w' : World) : Prop := ∀ (k : Nat) (o : Obj), w.heap[k]? = some o → (∀ c fz, o ≠ Obj.cells c 5 fz) → (∀ c fz, o ≠ Obj.cells c 3 fz) → (∀ c fz, o ≠ Obj.cells c 61 fz) → w'.heap[k]? = some o
/-- .. these are kept by the one who tells. -/
def MineK (w w' : World) : Prop := w.heap.size ≤ w'.heap.size ∧ ∀ (k : Nat) (c : Array Value) (t : TypeId) (fz : Nat × Nat), w.heap[k]? = some (Obj.cells c t fz) → (t = 5 ∨ t = 3 ∨ t = 61) → w'.heap[k]? = some (Obj.cells c t fz)
theorem MineK.of {w w' : World} (h : Below w.heap.size w w') : MineK w w' := ⟨h.size, fun k c t fz hk _ => (h.block k (Array.getElem?_eq_some_iff.1 hk).1).trans hk⟩
theorem MineK.trans {a b c : World} (h : MineK a b) (k : MineK b c) : MineK a c := ⟨Nat.le_trans h.1 k.1, fun i x t fz hi ht => k.2 i x t fz (h.2 i x t fz hi ht) ht⟩
theorem MineK.set {w : World} {g : Nat} {vs : Array Value} {t : TypeId} (h : Blk w g vs t) (ht : t ≠ 5 ∧ t ≠ 3 ∧ t ≠ 61) (o : Nat) (v : Value) : MineK w (w.setCell ⟨g, o, none⟩ v) := by
  have hs : w.heap.size ≤ (w.setCell ⟨g, o, none⟩ v).heap.size := ((Below.refl 0 w).setCell (p := ⟨g, o, none⟩) (Nat.zero_le _) v).size
  refine ⟨hs, fun k c t' fz hk ht' => ?_⟩
  have hne : g ≠ k := fun e => by
    subst e
    unfold Blk at h
    rw [h] at hk
    have := Option.some.inj hk
    injection this with _ h2
    subst h2
    rcases ht' with e | e | e
    · exact ht.1 e
    · exact ht.2.1 e
    · exact ht.2.2 e
  rw [Below.heap_setCell _ _ _ _ (Ne.symm hne)]
  exact hk
theorem MineK.grown {w w' : World} {row : Option Nat} (hg : w.grownBy w' row) (hr : ∀ g, row = some g → ∃ vs t fz, w.heap[g]? = some (.cells vs t fz) ∧ t ≠ 5 ∧ t ≠ 3 ∧ t ≠ 61) : MineK w w' := by
  refine ⟨hg.size, fun k c t' fz hk ht' => ?_⟩
  rw [hg.block k (Array.getElem?_eq_some_iff.1 hk).1 (fun e => ?_)]
  · exact hk
  · obtain ⟨vs, t, fz2, h1, h2⟩ := hr k e.symm
    rw [hk] at h1
    have := Option.some.inj h1
    injection this with _ h3
    subst h3
    rcases ht' with e | e | e
    · exact h2.1 e
    · exact h2.2.1 e
    · exact h2.2.2 e
theorem OthK.blk {w w' : World} (h : OthK w w') {b : Nat} {vs : Array Value} {t : TypeId} (k : Blk w b vs t) (ht : t ≠ 5 ∧ t ≠ 3 ∧ t ≠ 61) : Blk w' b vs t :=
  h b _ k (fun c fz e => by injection e with _ h2; exact ht.1 h2) (fun c fz e => by injection e with _ h2; exact ht.2.1 h2) (fun c fz e => by injection e with _ h2; exact ht.2.2 h2)
theorem OthK.map {w w' : World} (h : OthK w w') {m : Nat} {l : List (Int × Value)} (k : IsMapK w m l) : IsMapK w' m l :=
  h m _ k (fun c fz e => by cases e) (fun c fz e => by cases e) (fun c fz e => by cases e)
theorem OthK.kn {w w' : World} (h : OthK w w') {m : Nat} (k : KnM m w) : KnM m w' := by
  obtain ⟨b8, b9, h1, h2, h3⟩ := k
  exact ⟨b8, b9, h.map h1, h.blk h2 (by decide), h.blk h3 (by decide)⟩
theorem KnM.later {m : Nat} {w w' : World} (k : KnM m w) (hb : Below w.heap.size w w') : KnM m w' := by
  obtain ⟨b8, b9, h1, h2, h3⟩ := k
  exact ⟨b8, b9, h1.later hb, h2.later hb, h3.later hb⟩
theorem KnM.set {m : Nat} {w : World} (k : KnM m w) {g : Nat} {vs : Array Value} {t : TypeId} (h : Blk w g vs t) (ht : t ≠ 9) (o : Nat) (v : Value) : KnM m (w.setCell ⟨g, o, none⟩ v) := by
  obtain ⟨b8, b9, h1, h2, h3⟩ := k
  have hm : g ≠ m := fun e => by
    subst e
    unfold Blk at h; unfold IsMapK at h1
    rw [h] at h1; cases h1
  have hs : ∀ {b : Nat} {cs : Array Value}, Blk w b cs 9 → Blk (w.setCell ⟨g, o, none⟩ v) b cs 9 := fun {b cs} hb => hb.setCell_ne (a := ⟨g, o, none⟩) (fun e => by
    subst e
    unfold Blk at h hb
    rw [h] at hb
    have := Option.some.inj hb
    injection this with _ h3
    exact ht h3) v
  exact ⟨b8, b9, (Below.heap_setCell _ _ _ _ (Ne.symm hm)).trans h1, hs h2, hs h3⟩
/-- One who says: what was said stands in S. -/
structure Sayer (B0 : Nat) (fid : FuncId) (binds : Array Value) (S : List (List UInt8) → World → Prop) : Prop where
  ent : ∀ args w, (callFunc fid args).run Tryz.prog w = .ok (.enter fid args) w
  call : ∀ out s w, S out w → B0 ≤ w.heap.size → lenO (out ++ [s]) ≤ 1000000000 → (out ++ [s]).length ≤ 1000000000 → Calls Tryz.prog fid (#[.string (bs s)] ++ binds) w (fun e w' => e = .returned (.tuple #[]) ∧ S (out ++ [s]) w' ∧ Below B0 w w' ∧ OthK w w')
  keep : ∀ out w w', S out w → MineK w w' → S out w'
/-- A node whose pieces are told. -/
structure TeOk (n : Nd) : Prop where
  kind : 1 ≤ n.kind ∧ n.kind ≤ 9
  text : n.text.length ≤ 281474976710656
  rep : n.kind = 7 → 0 ≤ n.lo ∧ n.lo ≤ 255 ∧ 0 ≤ n.hi ∧ n.hi ≤ 255
theorem findK (k : Int) (h : 1 ≤ k ∧ k ≤ 9) (b8 b9 : Nat) : ∃ i fK binds, findEK (kL9 b8 b9) k 0 = some (i, .agg #[.int .i64 (levK k), .func (.func fK) #[] binds]) ∧ (∀ args w, (callFunc fK args).run Tryz.prog w = .ok (.enter fK args) w) ∧
    ∀ n : Nd, n.kind = k → TeOk n → ∀ w, T10 w → Blk w b8 #[.string (bs [98])] 9 → Blk w b9 #[.string (bs [119])] 9 → Calls Tryz.prog fK (#[.agg (ndC n)] ++ binds) w (PcPost w (pcsN clsT bndT n)) := by
  have hk : k = 1 ∨ k = 2 ∨ k = 3 ∨ k = 4 ∨ k = 5 ∨ k = 6 ∨ k = 7 ∨ k = 8 ∨ k = 9 := by omega
  rcases hk with rfl | rfl | rfl | rfl | rfl | rfl | rfl | rfl | rfl
  · exact ⟨_, _, #[], rfl, enters_of Tryz.func61 (by kernel_rfl) rfl, fun n hn ht w h10 h8 h9 => by
      have e : pcsN clsT bndT n = brk [] := by unfold pcsN; rw [if_pos hn]
      rw [e]; exact kinds1_any n w⟩
  · exact ⟨_, _, #[], rfl, enters_of Tryz.func62 (by kernel_rfl) rfl, fun n hn ht w h10 h8 h9 => by
      have e : pcsN clsT bndT n = [.sg (clsT n.cls)] := by unfold pcsN; rw [if_neg (by rw [hn]; decide), if_pos hn]
      rw [e]; exact kinds2_any n w⟩
  · exact ⟨_, _, #[], rfl, enters_of Tryz.func64 (by kernel_rfl) rfl, fun n hn ht w h10 h8 h9 => by
      have e : pcsN clsT bndT n = [.sg (34 :: (n.text ++ [34]))] := by unfold pcsN; rw [if_neg (by rw [hn]; decide), if_neg (by rw [hn]; decide), if_pos hn]
      rw [e]; exact kinds3_any n ht.text w⟩
  · exact ⟨_, _, #[], rfl, enters_of Tryz.func65 (by kernel_rfl) rfl, fun n hn ht w h10 h8 h9 => by
      have e : pcsN clsT bndT n = [.nd n.a 1, .nd n.b 2] := by simp [pcsN, hn]
      rw [e]; exact kinds4_any n w⟩
  · exact ⟨_, _, #[], rfl, enters_of Tryz.func66 (by kernel_rfl) rfl, fun n hn ht w h10 h8 h9 => by
      have e : pcsN clsT bndT n = [.nd n.a 0, .sg [124], .nd n.b 1] := by simp [pcsN, hn]
      rw [e]; exact kinds5_any n w⟩
  · exact ⟨_, _, #[], rfl, enters_of Tryz.func67 (by kernel_rfl) rfl, fun n hn ht w h10 h8 h9 => by
      have e : pcsN clsT bndT n = [.nd n.a 2, .sg [42]] := by simp [pcsN, hn]
      rw [e]; exact kinds6_any n w⟩
  · exact ⟨_, _, #[], rfl, enters_of Tryz.func68 (by kernel_rfl) rfl, fun n hn ht w h10 h8 h9 => by
      have e : pcsN clsT bndT n = [.nd n.a 2, .sg (bndT n.lo n.hi)] := by simp [pcsN, hn]
      obtain ⟨r1, r2, r3, r4⟩ := ht.rep hn
      rw [e]; exact kinds7_any n r1 r2 r3 r4 w h10⟩
  · exact ⟨_, _, #[.pointer (some ⟨b8, 0, none⟩)], rfl, enters_of Tryz.func87 (by kernel_rfl) rfl, fun n hn ht w h10 h8 h9 => by
      have e : pcsN clsT bndT n = .sg [98] :: brk [.nd n.a 0] := by simp [pcsN, hn]
      rw [e]; exact framed1_any n b8 [98] w h8⟩
  · exact ⟨_, _, #[.pointer (some ⟨b9, 0, none⟩)], rfl, enters_of Tryz.func87 (by kernel_rfl) rfl, fun n hn ht w h10 h8 h9 => by
      have e : pcsN clsT bndT n = .sg [119] :: brk [.nd n.a 0] := by simp [pcsN, hn]
      rw [e]; exact framed1_any n b9 [119] w h9⟩
/-- A node's kind, looked up: its level, and who makes its pieces. -/
theorem kind_at (n : Nd) (hn : TeOk n) (m : Nat) (w : World) (hK : KnM m w) : ∃ fK binds, (Instr.lookup 87 (.map (some m)) (.int .i64 n.kind) true).run Tryz.prog w = .ok (.tuple #[.agg #[.int .i64 (levK n.kind), .func (.func fK) #[] binds], .bool true]) w ∧
    (∀ args w, (callFunc fK args).run Tryz.prog w = .ok (.enter fK args) w) ∧ ∀ w', Below w.heap.size w w' → T10 w' → Calls Tryz.prog fK (#[.agg (ndC n)] ++ binds) w' (PcPost w' (pcsN clsT bndT n)) := by
  obtain ⟨b8, b9, h1, h2, h3⟩ := hK
  obtain ⟨i, fK, binds, hf, he, hc⟩ := findK n.kind hn.kind b8 b9
  refine ⟨fK, binds, ?_, he, fun w' hb h10 => hc n rfl hn w' h10 (h2.later hb) (h3.later hb)⟩
  have := run_lookup_int w m _ n.kind h1
  rw [hf] at this
  exact this
end Go.Proofs.YtpbadglfegcdjaaGreatDoor
/- Pieces turned round: slices.Reverse at a row of pieces. -/
namespace Go.Proofs.YtpbadglfegcdjaaGreatDoor
open Go Go.RowKit Go.Sort
set_option linter.unusedVariables false
set_option linter.unusedSimpArgs false
set_option maxRecDepth 100000

instance : Inhabited Pc := ⟨pc0⟩
def encP (p : Pc) : List Value := (pcC p).toList
theorem encP_len (p : Pc) : (encP p).length = 3 := pcC_size p
theorem flatK_eq (l : List Pc) : (Go.Sort.flatK encP 3 l.toArray).toList = flat3 l := by
  apply List.ext_getElem?
  intro t
  have hsz : (Go.Sort.flatK encP 3 l.toArray).size = l.length * 3 := by rw [size_flatK]; simp
  by_cases ht : t < l.length * 3
  · have hd : t / 3 < l.length := by omega
    have hm : t % 3 < 3 := Nat.mod_lt _ (by decide)
    have h1 := flat3_get l (t / 3) (t % 3) hd hm
    rw [show t / 3 * 3 + t % 3 = t by omega] at h1
    rw [h1]
    have hs : t < (Go.Sort.flatK encP 3 l.toArray).size := by rw [hsz]; exact ht
    rw [Array.getElem?_toList, Array.getElem?_eq_getElem hs]
    have h2 := Go.Sort.get_flatK encP 3 l.toArray t (by simpa using ht)
    rw [getElem!_pos _ t hs] at h2
    rw [h2]
    have e1 : l.toArray[t / 3]! = l.getD (t / 3) pc0 := by
      rw [getElem!_pos _ _ (by simpa using hd), List.getD_eq_getElem?_getD, List.getElem?_eq_getElem hd]; rfl
    rw [e1]
    unfold encP
    have hl : t % 3 < (pcC (l.getD (t / 3) pc0)).toList.length := by rw [pcC_size]; exact hm
    rw [getElem!_pos (pcC (l.getD (t / 3) pc0)).toList (t % 3) hl, ← Array.getElem?_toList, List.getElem?_eq_getElem hl]
  · rw [List.getElem?_eq_none (by rw [Array.length_toList, hsz]; omega), List.getElem?_eq_none (by rw [flat3_length]; omega)]
theorem rev_any {w : World} {base : Nat} {v : Value} {l : List Pc} (h : OwnP w base v l) (hl : 0 < l.length) (hm : l.length ≤ 1000) :
    Calls Tryz.prog 43 #[v] w (fun e w' => e = .returned (.tuple #[]) ∧ OwnP w' base v l.reverse ∧ w.grownBy w' v.ownBlock) := by
  obtain ⟨g, cap, cur, rfl, hg, hblk, hcap, hmax, hsz, htake⟩ := h.blk hl
  have hF : (Go.Sort.flatK encP 3 l.toArray).size = l.length * 3 := by rw [size_flatK]; simp
  have hH : HoldsK encP 3 w g 0 l.toArray := fun j hj => by
    rw [hF] at hj
    refine ⟨?_, hblk.frozen _⟩
    have hs : j < (Go.Sort.flatK encP 3 l.toArray).size := by rw [hF]; exact hj
    rw [Nat.zero_add, hblk.cell, getElem!_pos _ j hs]
    have e : cur.toList[j]? = (Go.Sort.flatK encP 3 l.toArray).toList[j]? := by
      rw [flatK_eq, ← htake, List.getElem?_take, if_pos hj]
    rw [Array.getElem?_toList, Array.getElem?_toList, Array.getElem?_eq_getElem hs] at e
    exact e
  have hc := AnyQ.slices_Reverse laysRev 3 (fun w => Tryz.isAgg90 w) (fun w => Tryz.sizeOf90 w) encP encP_len (fun p u hu => flat3_ones [p] u (by unfold flat3; exact List.mem_append_left _ hu)) g 0 cap l.toArray w hH (by simp; omega)
  rw [show l.toArray.size = l.length from by simp] at hc
  refine hc.mono ?_
  rintro e w' ⟨rfl, n, rfl⟩
  have hrev : l.toArray.reverse = l.reverse.toArray := by simp
  rw [hrev]
  have hF2 : (Go.Sort.flatK encP 3 l.reverse.toArray).size = l.length * 3 := by rw [size_flatK]; simp
  obtain ⟨F, hFe⟩ : ∃ F, F = Go.Sort.flatK encP 3 l.reverse.toArray := ⟨_, rfl⟩
  have hheap : (putRowK encP 3 (Go.Sort.ahead w n) g 0 l.reverse.toArray).heap[g]? = some (Obj.cells (putCells id 0 F cur) 90) := by
    unfold putRowK putRow mapBlock Go.Sort.ahead
    simp only [Array.getElem?_modify]
    have hb : w.heap[g]? = some (Obj.cells cur 90) := hblk
    rw [hb, ← hFe]; rfl
  refine ⟨rfl, ⟨flat3_length _, .inr ⟨g, cap, putCells id 0 F cur, by rw [List.length_reverse], hg, hheap, by rw [List.length_reverse]; exact hcap, hmax, by unfold putCells; rw [Array.size_mapIdx]; exact hsz, ?_⟩⟩, ?_⟩
  · rw [List.length_reverse]
    apply List.ext_getElem?
    intro t
    by_cases ht : t < l.length * 3
    · rw [List.getElem?_take, if_pos ht, Array.getElem?_toList]
      unfold putCells
      have htc : t < cur.size := by have := Nat.mul_le_mul_right 3 hcap; omega
      rw [Array.getElem?_mapIdx, Array.getElem?_eq_getElem htc, Option.map_some, if_pos ⟨Nat.zero_le _, by rw [hFe, hF2]; omega⟩, Nat.sub_zero, ← flatK_eq, Array.getElem?_toList, ← hFe, Array.getElem?_eq_getElem (by rw [hFe, hF2]; exact ht), getElem!_pos _ t (by rw [hFe, hF2]; exact ht)]; rfl
    · rw [List.getElem?_take, if_neg ht, List.getElem?_eq_none (by rw [flat3_length, List.length_reverse]; omega)]
  · refine ⟨rfl, rfl, rfl, ?_, fun k hk hne => ?_⟩
    · unfold putRowK putRow mapBlock Go.Sort.ahead; simp
    · unfold putRowK putRow mapBlock Go.Sort.ahead
      simp only [Array.getElem?_modify]
      rw [if_neg (fun e => hne (by rw [e]; rfl))]
end Go.Proofs.YtpbadglfegcdjaaGreatDoor
/- Leaf, Wrap, Pair: walked. -/
namespace Go.Proofs.YtpbadglfegcdjaaGreatDoor
open Go Go.RowKit
set_option linter.unusedVariables false
set_option linter.unusedSimpArgs false

theorem NRow.ofBlk {w : World} {b : Nat} {n : Nd} (h : Blk w b (ndC n) 43) : NRow w (some ⟨b, 0, none⟩) [n] := fun i hi => by
  obtain rfl : i = 0 := by simpa using hi
  refine ⟨b, 0, rfl, h.lt, fun j hj => ?_⟩
  rw [Nat.zero_mul, Nat.zero_add, h.cell]; rfl
set_option maxHeartbeats 8000000 in
set_option maxRecDepth 100000 in
theorem leaf_any (n : Nd) (hm : MvOk 0 n) (w : World) : Calls Tryz.prog 118 #[.agg (ndC n)] w (DPost w [n]) := by
  have HMV : Hid (mvN 0 n = n) := mvN_zero n
  have HM := Lib.hid hm
  have hb := ((Below.refl w.heap.size w).alloc (Nat.le_refl _) (.cells (ndC n) 43)).alloc (by simp) (.cells #[.slice none 0 0] 24)
  have HB := Lib.hid hb
  have HN : Hid (Blk ((w.alloc (.cells (ndC n) 43)).alloc (.cells #[.slice none 0 0] 24)) w.heap.size (ndC n) 43) := (Blk.new w _ _).alloc _
  have HR : Hid (Blk ((w.alloc (.cells (ndC n) 43)).alloc (.cells #[.slice none 0 0] 24)) (w.heap.size + 1) #[.slice none 0 0] 24) := by
    unfold Hid
    have := Blk.new (w.alloc (.cells (ndC n) 43)) #[.slice none 0 0] 24
    simpa using this
  clear hm hb
  unfold ndC at HB HN HR ⊢
  go_enter Tryz.func118, Tryz.ntmps118
  go_upto_region 1 with (fail)
  generalize (w.alloc (.cells #[.int .i64 n.kind, .int .i64 n.a, .int .i64 n.b, .int .i64 n.lo, .int .i64 n.hi, .int .u64 (wd n.cls 0), .int .u64 (wd n.cls 1), .int .u64 (wd n.cls 2), .int .u64 (wd n.cls 3), .string (bs n.text)] 43)).alloc (.cells #[.slice none 0 0] 24) = w1 at *
  obtain ⟨g0, g1, g2, g3, g4, g5, g6, g7, g8, g9⟩ := ten_cells HN.out
  have HB2 := Lib.hid ((Below.refl w1.heap.size w1).alloc (Nat.le_refl _) (.cells (ndC n) 43))
  have HN2 := Lib.hid (NRow.ofBlk (Blk.new w1 (ndC n) 43))
  have hlow : w.heap.size + 1 < w1.heap.size := HR.out.lt
  have LC : Hid (Calls Tryz.prog 126 #[.slice none 0 0, .slice (some ⟨w1.heap.size, 0, none⟩) 1 1, .int .i64 0] (w1.alloc (.cells (ndC n) 43)) (LaidPost (w1.alloc (.cells (ndC n) 43)) (w1.alloc (.cells (ndC n) 43)).heap.size [n])) := by
    have h := laid_any [] [n] 0 (.slice none 0 0) (some ⟨w1.heap.size, 0, none⟩) 1 (w1.alloc (.cells (ndC n) 43)).heap.size _ (OwnN.nil _ _) HN2.out (fun b o e => by cases e; simp) (Nat.le_refl _) (by simp) (fun x hx => by simp at hx; subst hx; exact HM.out)
    unfold Hid
    rw [List.nil_append, List.map_cons, List.map_nil, HMV.out] at h
    exact h
  unfold ndC at HB2 HN2 LC
  go_wp2_with fail
  refine LC.out.mono ?_; intro e w4 hp; obtain ⟨s, rfl, ho, hb4⟩ := hp
  obtain ⟨A2, c2, rfl, -⟩ := ho.row
  have HO := Lib.hid ho
  have hb5 := hb4.trans ((Below.refl _ _))
  have HR4 := Lib.hid ((HR.out.later HB2.out).later hb4)
  have HB4 := Lib.hid ((HB.out.trans (HB2.out.mono HB.out.size)).trans (hb4.mono (by simp; omega)))
  clear hb4 hb5 ho LC g0 g1 g2 g3 g4 g5 g6 g7 g8 g9
  have r0 := HR4.out.cell 0
  simp at r0
  have rf := HR4.out.frozen
  have s0 := HR4.out.put10 (o := 0) (by simp)
  go_wp2
  exact bodyPost_ret (v := .agg #[.slice A2 1 c2]) (by simp [results, Tryz.results118, go_sem, s0]) rfl ⟨_, rfl, (HO.out.setCell_ne (a := ⟨w.heap.size + 1, 0, none⟩) (by simp; omega) _).weaken (by simp; omega), HB4.out.setCell (p := ⟨w.heap.size + 1, 0, none⟩) (Nat.le_succ _) _⟩
/-- A row at the head of a block of its own. -/
def ownP (g cap : Nat) (L : List Nd) (w : World) : Prop := OwnN w g (.slice (some ⟨g, 0, none⟩) L.length cap) L
theorem ownP.later {g cap : Nat} {L : List Nd} {w w' : World} (h : ownP g cap L w) (hb : Below w.heap.size w w') : ownP g cap L w' := OwnN.later h hb
theorem ownP.front {g cap : Nat} {L X : List Nd} {w : World} (h : ownP g cap (L ++ X) w) : ownP g cap L w := by
  obtain ⟨h0, ⟨hv, hn⟩ | ⟨g', cap', cur, hv, hb, hg, hc, hm, hs, ht⟩⟩ := h
  · cases hv
  · cases hv
    refine ⟨flat10_length L, .inr ⟨g, cap, cur, rfl, hb, hg, ?_, hm, hs, ?_⟩⟩
    · rw [List.length_append] at hc; omega
    · rw [List.length_append, flat10_append] at ht
      have h2 : List.take (L.length * 10) (flat10 L ++ flat10 X) = flat10 L := by rw [List.take_append_of_le_length (by rw [flat10_length]; omega), List.take_of_length_le (by rw [flat10_length]; omega)]
      have := congrArg (List.take (L.length * 10)) ht
      rw [List.take_take, Nat.min_eq_left (by omega), h2] at this
      exact this
theorem ownP.lt {g cap : Nat} {L : List Nd} {w : World} (h : ownP g cap L w) : g < w.heap.size := by
  obtain ⟨h0, ⟨hv, hn⟩ | ⟨g', cap', cur, hv, hb, hg, hr⟩⟩ := h
  · cases hv
  · cases hv
    exact Blk.lt (w := w) (b := g) (vs := cur) (t := 43) hg
/-- How worlds go on where one row is written: what is owned before stays owned, and so does what is owned behind. -/
def RW (g cap : Nat) (L0 L1 : List Nd) (w w' : World) : Prop := w.grownBy w' (some g) ∧ (ownP g cap L0 w → ownP g cap L0 w') ∧ (ownP g cap L1 w → ownP g cap L1 w')
theorem RW.of {g cap : Nat} {L0 L1 : List Nd} (w w' : World) (hb : Below w.heap.size w w') : RW g cap L0 L1 w w' := ⟨gb_of hb, fun h => h.later hb, fun h => h.later hb⟩
theorem Blk.grow {w w' : World} {b g : Nat} {vs : Array Value} {t : TypeId} (h : Blk w b vs t) (hne : b ≠ g) (hg : w.grownBy w' (some g)) : Blk w' b vs t := (hg.block b h.lt (fun e => hne (Option.some.inj e))).trans h
structure WrS (w0 : World) (g cap : Nat) (L0 : List Nd) (A : Option Addr) (m : List Nd) (c bd br bw : Nat) (wh : Nd) (w : World) : Prop where
  bel : Below w0.heap.size w0 w
  row : NRow w A m
  box : Blk w bd #[.slice A m.length c] 24
  res : Blk w br #[.slice none 0 0] 24
  who : Blk w bw (ndC wh) 43
  own : ownP g cap L0 w
structure WrN (w0 : World) (g : Nat) (A : Option Addr) (bd br bw : Nat) : Prop where
  low : w0.heap.size ≤ g
  a : ∀ b o, A = some ⟨b, o, none⟩ → b ≠ g
  d : bd ≠ g
  r : br < g
  w : bw ≠ g
theorem WrS.grow {w0 w w' : World} {g cap : Nat} {L0 L1 : List Nd} {A : Option Addr} {m : List Nd} {c bd br bw : Nat} {wh : Nd} (hn : WrN w0 g A bd br bw) (h : WrS w0 g cap L0 A m c bd br bw wh w) (hr : RW g cap L0 L1 w w') : WrS w0 g cap L0 A m c bd br bw wh w' :=
  ⟨h.bel.trans ⟨hr.1.os, hr.1.tape, hr.1.output, hr.1.size, fun k hk => hr.1.block k (Nat.lt_of_lt_of_le hk h.bel.size) (fun e => by have h1 := Option.some.inj e; have h2 := hn.low; omega)⟩, h.row.gb hn.a hr.1, h.box.grow hn.d hr.1, h.res.grow (by have := hn.r; omega) hr.1, h.who.grow hn.w hr.1, hr.2.1 h.own⟩
/-- A new row of one node. -/
def NewN (g : Nat) (wh : Nd) (v : Value) (w : World) : Prop := ∃ b, v = .slice (some ⟨b, 0, none⟩) 1 1 ∧ Blk w b (ndC wh) 43 ∧ b ≠ g
theorem NewN.grow {g cap : Nat} {L0 L1 : List Nd} (wh : Nd) (v : Value) (w w' : World) (h : NewN g wh v w) (hr : RW g cap L0 L1 w w') : NewN g wh v w' := by
  obtain ⟨b, h1, h2, h3⟩ := h
  exact ⟨b, h1, h2.grow h3 hr.1, h3⟩
/-- The row behind the call. -/
def LaidV (g cap : Nat) (L1 : List Nd) (v : Value) (w : World) : Prop := v = .slice (some ⟨g, 0, none⟩) L1.length cap ∧ ownP g cap L1 w
theorem LaidV.grow {g cap : Nat} {L0 : List Nd} (L1 : List Nd) (v : Value) (w w' : World) (h : LaidV g cap L1 v w) (hr : RW g cap L0 L1 w w') : LaidV g cap L1 v w' := ⟨h.1, hr.2.2 h.2⟩
theorem wpList_make_nd {w : World} {ops : Array Oper} {rest : List Oper} {o : Oper} {a : Act} {Q : Exit → Act → World → Prop} (hgd : o.guard = none) (l c : Operand) (hop : o.op = Op.makeSlice 22 l c)
    (C : Int) (n : Nat) (hl : a.eval l = .int .i64 0) (hc : a.eval c = .int .i64 C) (hC : C = (n : Int)) (hn : n ≤ 1073741824)
    (hK : ∀ w', ownP w.heap.size n [] w' → Below w.heap.size w w' → wpList Tryz.prog ops Q rest (a.put o.dst (.slice (some ⟨w.heap.size, 0, none⟩) 0 n)) w') : wpList Tryz.prog ops Q (o :: rest) a w := by
  obtain ⟨ib, hib, hz0, hz1, hz2⟩ := info_parts infoNd
  exact wpList_make_own w hgd l c 22 hop w.heap.size 43 ib _ 10 Tryz.underlying22 hib hz0 hz1 .i64 .i64 C n hl hc hC (by rw [hz2]; omega) (by unfold maxLen; omega) (Nat.le_refl _)
    fun w' h1 h2 => hK w' h1 ⟨h2.os, h2.tape, h2.output, h2.size, fun k hk => h2.block k hk (by simp)⟩
theorem laid_wr {w0 : World} {g cap : Nat} {L0 : List Nd} {A : Option Addr} {m : List Nd} {c bd br bw : Nat} {wh : Nd} (hn : WrN w0 g A bd br bw) (d : Int) (hroom : L0.length + m.length ≤ cap) (hlen : L0.length + m.length < 1073741824) (hok : ∀ n ∈ m, MvOk d n)
    {w : World} (h : WrS w0 g cap L0 A m c bd br bw wh w) : Calls Tryz.prog 126 #[.slice (some ⟨g, 0, none⟩) L0.length cap, .slice A m.length c, .int .i64 d] w
      (fun e w' => ∃ v, e = .returned v ∧ LaidV g cap (L0 ++ m.map (mvN d)) v w' ∧ RW g cap L0 (L0 ++ m.map (mvN d)) w w') :=
  (laid_fits L0 m d g cap A c w h.own h.row hn.a hroom hlen hok).mono fun e w' hp => by
    obtain ⟨h1, h2, h3⟩ := hp
    exact ⟨_, h1, ⟨rfl, h2⟩, h3, fun _ => ownP.front h2, fun _ => h2⟩
theorem wp_make_nd {w : World} {o : Oper} {a : Act} {K : Act → World → Prop} {Q : Exit → Act → World → Prop} (l c : Operand) (hop : o.op = Op.makeSlice 22 l c)
    (C : Int) (n : Nat) (hl : a.eval l = .int .i64 0) (hc : a.eval c = .int .i64 C) (hC : C = (n : Int)) (hn : n ≤ 1073741824)
    (hK : ∀ w', ownP w.heap.size n [] w' → Below w.heap.size w w' → K (a.put o.dst (.slice (some ⟨w.heap.size, 0, none⟩) 0 n)) w') : o.wp Tryz.prog a w K Q := by
  obtain ⟨ib, hib, hz0, hz1, hz2⟩ := info_parts infoNd
  obtain ⟨w', hrun, r1, r2⟩ := run_make_own (P := Tryz.prog) w w.heap.size 22 43 ib _ 10 Tryz.underlying22 hib hz0 hz1 .i64 .i64 n (by rw [hz2]; omega) (by unfold maxLen; omega) (Nat.le_refl _)
  subst hC
  unfold Oper.wp
  simp [execOp, hop, hl, hc, hrun, Result.andThen]
  exact hK w' r1 ⟨r2.os, r2.tape, r2.output, r2.size, fun k hk => r2.block k hk (by simp)⟩
def MadeN (lo cap : Nat) (v : Value) (w : World) : Prop := ∃ g, v = .slice (some ⟨g, 0, none⟩) 0 cap ∧ ownP g cap [] w ∧ lo ≤ g
theorem MadeN.later (lo cap : Nat) (v : Value) (w w' : World) (h : MadeN lo cap v w) (hb : Below w.heap.size w w') : MadeN lo cap v w' := by
  obtain ⟨g, h1, h2, h3⟩ := h
  exact ⟨g, h1, h2.later hb, h3⟩
structure PrS (w0 : World) (A B : Option Addr) (a b : List Nd) (c1 c2 lo bw : Nat) (wh : Nd) (w : World) : Prop where
  bel : Below w0.heap.size w0 w
  ra : NRow w A a
  rb : NRow w B b
  ba : Blk w w0.heap.size #[.slice A a.length c1] 24
  bb : Blk w (w0.heap.size + 1) #[.slice B b.length c2] 24
  res : Blk w (w0.heap.size + 2) #[.slice none 0 0] 24
  who : Blk w bw (ndC wh) 43
  low : lo ≤ w.heap.size
theorem PrS.later {w0 w w' : World} {A B : Option Addr} {a b : List Nd} {c1 c2 lo bw : Nat} {wh : Nd} (h : PrS w0 A B a b c1 c2 lo bw wh w) (hb : Below w.heap.size w w') : PrS w0 A B a b c1 c2 lo bw wh w' :=
  ⟨h.bel.trans (hb.mono h.bel.size), h.ra.later hb, h.rb.later hb, h.ba.later hb, h.bb.later hb, h.res.later hb, h.who.later hb, Nat.le_trans h.low hb.size⟩
theorem PrS.new (w : World) (A B : Option Addr) (a b : List Nd) (c1 c2 : Nat) (wh : Nd) (ha : NRow w A a) (hb : NRow w B b) :
    PrS w A B a b c1 c2 (w.heap.size + 4) (w.heap.size + 3) wh ((((w.alloc (.cells #[.slice A a.length c1] 24)).alloc (.cells #[.slice B b.length c2] 24)).alloc (.cells #[.slice none 0 0] 24)).alloc (.cells (ndC wh) 43)) := by
  have HB := ((((Below.refl w.heap.size w).alloc (Nat.le_refl _) (.cells #[.slice A a.length c1] 24)).alloc (by simp) (.cells #[.slice B b.length c2] 24)).alloc (by simp; omega) (.cells #[.slice none 0 0] 24)).alloc (by simp; omega) (.cells (ndC wh) 43)
  refine ⟨HB, ha.later HB, hb.later HB, (((Blk.new w _ _).alloc _).alloc _).alloc _, ?_, ?_, ?_, by simp⟩
  · have := ((Blk.new (w.alloc (.cells #[.slice A a.length c1] 24)) #[.slice B b.length c2] 24).alloc (.cells #[.slice none 0 0] 24)).alloc (.cells (ndC wh) 43)
    simpa using this
  · have := (Blk.new ((w.alloc (.cells #[.slice A a.length c1] 24)).alloc (.cells #[.slice B b.length c2] 24)) #[.slice none 0 0] 24).alloc (.cells (ndC wh) 43)
    simpa using this
  · have := Blk.new (((w.alloc (.cells #[.slice A a.length c1] 24)).alloc (.cells #[.slice B b.length c2] 24)).alloc (.cells #[.slice none 0 0] 24)) (ndC wh) 43
    simpa using this
end Go.Proofs.YtpbadglfegcdjaaGreatDoor
/- The anchor of layer 4: answers that the document fixes. -/
namespace Go.Proofs.YtpbadglfegcdjaaGreatDoor
open Go Go.RowKit
set_option linter.unusedVariables false
set_option linter.unusedSimpArgs false

def awA : List Nd := [{ kind := 1 }]
def awX : Nd := { kind := 3, text := [120] }
def awB : List Nd := [awX, { kind := 7, a := 0, lo := 1, hi := 2 }]
def awN2 : Nd := { kind := 7, a := 1, lo := 1, hi := 2 }
def awN3 : Nd := { kind := 5, a := 0, b := 2 }
def awD : List Nd := [{ kind := 1 }, awX, awN2, awN3]
theorem awB_eq : wrapL 7 1 2 [awX] = awB := by decide
theorem awD_eq : pairL 5 awA awB = awD := by decide
theorem form_one {n : Nd} (h : okN [n] 0 n) (hk : leafK n.kind) : Form [n] := by
  refine ⟨by simp, fun i hi => ?_, ?_⟩
  · obtain rfl : i = 0 := by simpa using hi
    exact h
  · show firstP [n] 0 = 0
    have := firstP_le [n] 0; omega
theorem awA_form : Form awA := form_one ⟨by decide, .inl rfl⟩ (.inl rfl)
theorem awX_form : Form [awX] := form_one ⟨by decide, .inr (.inr (.inl ⟨rfl, by decide⟩))⟩ (.inr (.inr rfl))
theorem awB_form : Form awB := by rw [← awB_eq]; exact wrap_form7 awX_form (by decide) (by decide) (by decide)
theorem awD_form : Form awD := by rw [← awD_eq]; exact pair_form awA_form awB_form (.inr rfl)
theorem awD_first2 : firstP awD 2 = 1 := by
  have := (pair_sub awA_form awB_form (kind := 5)).2.2
  rw [awD_eq] at this; exact this
theorem awD_sub2 : subL awD 2 = awB := by
  have := (pair_sub awA_form awB_form (kind := 5)).2.1
  rw [awD_eq] at this; exact this
theorem awD_first3 : firstP awD 3 = 0 := awD_form.2.2
theorem awD_cut : formB (awD.take 3) = false := formB_not (fun h => by
  have := (cut_form awD_form (k := 2) (by decide)).1 h
  rw [awD_first2] at this; cases this)
theorem awNil : formB [] = false := formB_not (fun h => by have := h.1; simp at this)
def awE : Nd := { kind := 1, a := 1 }
theorem awE_form : formB [awE] = false := formB_not (fun h => by
  have := (h.2.1 0 (by simp)).1
  exact absurd this (by decide))
theorem awTxt : Txt awD := fun n hn => by
  have : ∀ n ∈ awD, n.text.length ≤ 1 := by decide
  have := this n hn; omega
theorem mvOk0 {n : Nd} (ht : n.text.length ≤ 1000) (ha : -1000 ≤ n.a ∧ n.a ≤ 1000) (hb : -1000 ≤ n.b ∧ n.b ≤ 1000) {d : Int} (hd : -1000 ≤ d ∧ d ≤ 1000) : MvOk d n :=
  ⟨by omega, fun _ => wrap_in (by omega) (by omega), fun _ => wrap_in (by omega) (by omega)⟩
theorem awETxt : Txt [awE] := fun n hn => by simp at hn; subst hn; decide
structure AwN (w0 : World) (b1 b2 b3 : Nat) (A1 A2 : Option Addr) (bd od : Nat) (c1 c2 c3 : Nat) (w : World) : Prop where
  bel : Below w0.heap.size w0 w
  u8 : U8T w
  x1 : Blk w b1 #[.slice A1 1 c1] 24
  x2 : Blk w b2 #[.slice A2 2 c2] 24
  x3 : Blk w b3 #[.slice (some ⟨bd, od, none⟩) 4 c3] 24
  r1 : NRow w A1 awA
  r2 : NRow w A2 awB
  r3 : NRow w (some ⟨bd, od, none⟩) awD
theorem AwN.later {w0 w w' : World} {b1 b2 b3 : Nat} {A1 A2 : Option Addr} {bd od c1 c2 c3 : Nat} (h : AwN w0 b1 b2 b3 A1 A2 bd od c1 c2 c3 w) (hb : Below w.heap.size w w') : AwN w0 b1 b2 b3 A1 A2 bd od c1 c2 c3 w' :=
  ⟨h.bel.trans (hb.mono h.bel.size), h.u8.later hb, h.x1.later hb, h.x2.later hb, h.x3.later hb, h.r1.later hb, h.r2.later hb, h.r3.later hb⟩
theorem AwN.cells {w0 w : World} {b1 b2 b3 : Nat} {A1 A2 : Option Addr} {bd od c1 c2 c3 : Nat} (h : AwN w0 b1 b2 b3 A1 A2 bd od c1 c2 c3 w) : w.cell? ⟨bd, od + 20, none⟩ = some (.int .i64 7) ∧ w.cell? ⟨bd, od + 21, none⟩ = some (.int .i64 1) ∧ w.cell? ⟨bd, od + 22, none⟩ = some (.int .i64 0) ∧ w.cell? ⟨bd, od + 23, none⟩ = some (.int .i64 1) ∧ w.cell? ⟨bd, od + 24, none⟩ = some (.int .i64 2) ∧ w.cell? ⟨bd, od + 25, none⟩ = some (.int .u64 0) ∧ w.cell? ⟨bd, od + 26, none⟩ = some (.int .u64 0) ∧ w.cell? ⟨bd, od + 27, none⟩ = some (.int .u64 0) ∧ w.cell? ⟨bd, od + 28, none⟩ = some (.int .u64 0) ∧ w.cell? ⟨bd, od + 29, none⟩ = some (.string ⟨#[]⟩) ∧ w.cell? ⟨bd, od + 30, none⟩ = some (.int .i64 5) ∧ w.cell? ⟨bd, od + 31, none⟩ = some (.int .i64 0) ∧ w.cell? ⟨bd, od + 32, none⟩ = some (.int .i64 2) ∧ w.cell? ⟨bd, od + 33, none⟩ = some (.int .i64 0) ∧ w.cell? ⟨bd, od + 34, none⟩ = some (.int .i64 0) ∧ w.cell? ⟨bd, od + 35, none⟩ = some (.int .u64 0) ∧ w.cell? ⟨bd, od + 36, none⟩ = some (.int .u64 0) ∧ w.cell? ⟨bd, od + 37, none⟩ = some (.int .u64 0) ∧ w.cell? ⟨bd, od + 38, none⟩ = some (.int .u64 0) ∧ w.cell? ⟨bd, od + 39, none⟩ = some (.string ⟨#[]⟩) := by
  have g2 : At10 w bd (od + 20) awN2 := h.r3.at (i := 2) (by decide) rfl
  have g3 : At10 w bd (od + 30) awN3 := h.r3.at (i := 3) (by decide) rfl
  obtain ⟨a0, a1, a2, a3, a4, a5, a6, a7, a8, a9⟩ := g2
  obtain ⟨d0, d1, d2, d3, d4, d5, d6, d7, d8, d9⟩ := g3
  have z0 : (wd awN2.cls 0 : Int) = 0 := by decide
  have z1 : (wd awN2.cls 1 : Int) = 0 := by decide
  have z2 : (wd awN2.cls 2 : Int) = 0 := by decide
  have z3 : (wd awN2.cls 3 : Int) = 0 := by decide
  have y0 : (wd awN3.cls 0 : Int) = 0 := by decide
  have y1 : (wd awN3.cls 1 : Int) = 0 := by decide
  have y2 : (wd awN3.cls 2 : Int) = 0 := by decide
  have y3 : (wd awN3.cls 3 : Int) = 0 := by decide
  rw [z0] at a5
  rw [z1] at a6
  rw [z2] at a7
  rw [z3] at a8
  rw [y0] at d5
  rw [y1] at d6
  rw [y2] at d7
  rw [y3] at d8
  exact ⟨a0, a1, a2, a3, a4, a5, a6, a7, a8, a9, d0, d1, d2, d3, d4, d5, d6, d7, d8, d9⟩
theorem awq1 (w : World) : (binOp .eql 43 (.agg #[.int .i64 7, .int .i64 1, .int .i64 0, .int .i64 1, .int .i64 2, .int .u64 0, .int .u64 0, .int .u64 0, .int .u64 0, .string ⟨#[]⟩]) (.agg #[.int .i64 7, .int .i64 1, .int .i64 0, .int .i64 1, .int .i64 2, .int .u64 0, .int .u64 0, .int .u64 0, .int .u64 0, .string ⟨#[]⟩])).run Tryz.prog w = .ok (.bool true) w := by
  have := eql_nd awN2 awN2 w
  unfold awN2 at this
  rw [ndC_zero] at this
  exact this
theorem awq2 (w : World) : (binOp .eql 43 (.agg #[.int .i64 5, .int .i64 0, .int .i64 2, .int .i64 0, .int .i64 0, .int .u64 0, .int .u64 0, .int .u64 0, .int .u64 0, .string ⟨#[]⟩]) (.agg #[.int .i64 5, .int .i64 0, .int .i64 2, .int .i64 0, .int .i64 0, .int .u64 0, .int .u64 0, .int .u64 0, .int .u64 0, .string ⟨#[]⟩])).run Tryz.prog w = .ok (.bool true) w := by
  have := eql_nd awN3 awN3 w
  unfold awN3 at this
  rw [ndC_zero] at this
  exact this
end Go.Proofs.YtpbadglfegcdjaaGreatDoor
