/- Heads of package split, and what the document's package tells two rows by: the same classes, the same bytes. -/
import Derived.Test.YtgehepiphdphjaaDoorSplitParts
namespace Go.Proofs.YtgehepiphdphjaaDoor
open Go Go.RowKit
set_option linter.unusedVariables false

/-! ### rows of bytes that a call owns -/
def bytesV (l : List Nat) : List Value := l.map fun c : Nat => Value.int .u8 (c : Int)
theorem bytesV_snoc (l : List Nat) (c : Nat) : bytesV (l ++ [c]) = bytesV l ++ [.int .u8 (c : Int)] := by simp [bytesV]
/-- A value that is a row of these bytes. -/
def IsBytes (l : List Nat) (v : Value) (w : World) : Prop := ∃ a cap, v = .slice a l.length cap ∧ Row8 w a l
theorem Row8.later' {w w' : World} {a : Option Addr} {l : List Nat} (h : Row8 w a l) (hb : Below w.heap.size w w') : Row8 w' a l :=
  ⟨h.1, h.2.1, fun i hi => by
    obtain ⟨b, off, ha, hl, hc⟩ := h.2.2 i hi
    exact ⟨b, off, ha, Nat.lt_of_lt_of_le hl hb.size, (hb.cell (p := ⟨b, off + i, none⟩) hl).trans hc⟩⟩
theorem IsBytes.later (l : List Nat) (v : Value) (w w' : World) (h : IsBytes l v w) (hb : Below w.heap.size w w') : IsBytes l v w' := by
  obtain ⟨a, cap, hv, hr⟩ := h
  exact ⟨a, cap, hv, hr.later' hb⟩
def AnsBytes (w : World) (l : List Nat) (e : Ending) (w' : World) : Prop := ∃ v, e = .returned v ∧ IsBytes l v w' ∧ Below w.heap.size w w'
def Own8 (w : World) (base : Nat) (v : Value) (l : List Nat) : Prop := w.ownsRow base 5 1 v l.length (bytesV l)
theorem Own8.nil (w : World) (base : Nat) : Own8 w base (.slice none 0 0) [] := ⟨rfl, .inl ⟨rfl, rfl⟩⟩
theorem Own8.later {w w' : World} {base : Nat} {v : Value} {l : List Nat} (h : Own8 w base v l) (hb : Below w.heap.size w w') : Own8 w' base v l := ownsRow_later h hb
theorem Own8.isBytes {w : World} {base : Nat} {v : Value} {l : List Nat} (h : Own8 w base v l) (hl : ∀ c ∈ l, c < 256) (hm : l.length ≤ 9223372036854775807) : IsBytes l v w := by
  obtain ⟨_, ⟨hv, hn⟩ | ⟨g, cap, cur, hv, hb, hg, hc, hm2, hs, ht⟩⟩ := h
  · have : l = [] := List.length_eq_zero_iff.1 hn
    subst this
    exact ⟨none, 0, hv, hl, hm, fun i hi => by simp at hi⟩
  · refine ⟨_, cap, hv, hl, hm, fun i hi => ⟨g, 0, rfl, Blk.lt (w := w) (b := g) (vs := cur) (t := 5) hg, ?_⟩⟩
    rw [Blk.cell (w := w) (b := g) (vs := cur) (t := 5) hg]
    have : (bytesV l)[i]? = some (.int .u8 ((l.getD i 0 : Nat) : Int)) := by unfold bytesV; simp [hi]
    rw [← this, ← ht, List.getElem?_take, if_pos (by omega)]
    simp

theorem infoU8 : (Tryd.prog.info? 5).map (fun i => (i.zero, i.size, i.bytes)) = some (some (.int .u8 0), 1, 1) := by kernel_rfl

/-- An append of a byte to a row of its own. -/
theorem wp_append_u8 {w : World} {o : Oper} {a : Act} {K : Act → World → Prop} {Q : Exit → Act → World → Prop} (s x : Operand)
    (ho : o.op = .call { callee := .builtin .append, args := #[s, x], argTypes := #[25, 25] })
    (base : Nat) (v : Value) (l : List Nat) (hs : a.eval s = v) (hown : Own8 w base v l)
    (b : Nat) (c : Nat) (hx : a.eval x = .slice (some ⟨b, 0, none⟩) 1 1) (hnew : Blk w b #[.int .u8 (c : Int)] 5) (hlen : l.length < 1073741824) (hbase : base ≤ w.heap.size)
    (h : ∀ v' w', Own8 w' base v' (l ++ [c]) → (∀ B, B ≤ base → Below B w w') → K (a.put o.dst v') w') : o.wp Tryd.prog a w K Q := by
  obtain ⟨ib, hib, hz0, hz1, hz2⟩ := info_parts infoU8
  have hnews : ∀ (j : Nat) (u : Value), [Value.int .u8 (c : Int)][j]? = some u → w.cell? ((⟨b, 0, none⟩ : Addr).add j) = some u := by
    intro j u hu
    cases j with
    | zero => simp at hu; subst hu; exact hnew.cell 0
    | succ j => simp at hu
  refine wp_append_own w s x 25 ho base 5 ib _ 1 1 Tryd.underlying25 hib hz0 hz1 hz2 rfl (by decide) v l.length (bytesV l) hs hown ⟨b, 0, none⟩ 1 1 [.int .u8 (c : Int)] hx rfl hnews (by simp [Value.oneCell']) (by unfold maxLen; omega) (by omega) hbase ?_
  intro v' w' h1 h2 _
  refine h v' w' (by unfold Own8; rw [List.length_append, bytesV_snoc]; exact h1) fun B hB => ?_
  exact (Below.refl B w).grown h2 (Nat.le_trans hB hbase) fun k hk => Nat.le_trans hB ((World.ownsRow.lt hown k hk).1)

theorem wpList_append_u8 {w : World} {ops : Array Oper} {rest : List Oper} {o : Oper} {a : Act} {Q : Exit → Act → World → Prop} (hgd : o.guard = none) (s x : Operand)
    (ho : o.op = .call { callee := .builtin .append, args := #[s, x], argTypes := #[25, 25] })
    (base : Nat) (v : Value) (l : List Nat) (hs : a.eval s = v) (hown : Own8 w base v l)
    (b : Nat) (c : Nat) (hx : a.eval x = .slice (some ⟨b, 0, none⟩) 1 1) (hnew : Blk w b #[.int .u8 (c : Int)] 5) (hlen : l.length < 1073741824) (hbase : base ≤ w.heap.size)
    (h : ∀ v' w', Own8 w' base v' (l ++ [c]) → (∀ B, B ≤ base → Below B w w') → wpList Tryd.prog ops Q rest (a.put o.dst v') w') : wpList Tryd.prog ops Q (o :: rest) a w :=
  wpList_plain hgd fun K hK => wp_append_u8 s x ho base v l hs hown b c hx hnew hlen hbase fun v' w' h1 h2 => hK _ _ (h v' w' h1 h2)
theorem wpList_append_cls {w : World} {ops : Array Oper} {rest : List Oper} {o : Oper} {a : Act} {Q : Exit → Act → World → Prop} (hgd : o.guard = none) (s x : Operand)
    (ho : o.op = .call { callee := .builtin .append, args := #[s, x], argTypes := #[22, 22] })
    (base : Nat) (v : Value) (l : List (BitVec 256)) (hs : a.eval s = v) (hown : OwnC w base v l)
    (b : Nat) (t : BitVec 256) (hx : a.eval x = .slice (some ⟨b, 0, none⟩) 1 1) (hnew : Blk w b (cells4 t) 29) (hlen : l.length < 1073741824) (hbase : base ≤ w.heap.size)
    (h : ∀ v' w', OwnC w' base v' (l ++ [t]) → (∀ B, B ≤ base → Below B w w') → wpList Tryd.prog ops Q rest (a.put o.dst v') w') : wpList Tryd.prog ops Q (o :: rest) a w :=
  wpList_plain hgd fun K hK => wp_append_cls s x ho base v l hs hown b t hx hnew hlen hbase fun v' w' h1 h2 _ _ => hK _ _ (h v' w' h1 fun B hB =>
    (Below.refl B w).grown h2 (Nat.le_trans hB hbase) fun k hk => Nat.le_trans hB ((World.ownsRow.lt hown k hk).1))

theorem heads_lt (l : List (BitVec 256)) : ∀ c ∈ headsL l, c < 256 := fun c hc => by
  unfold headsL at hc; rw [List.mem_filter, List.mem_range] at hc; exact hc.1
theorem parts_get (l : List (BitVec 256)) (k : Nat) (hk : k < (headsL l).length) : lstB ((partsL l).getD k 0) = (headsL l).getD k 0 := by
  have hm : (headsL l)[k] ∈ headsL l := List.getElem_mem hk
  have hh := hm
  unfold headsL at hh; rw [List.mem_filter, List.mem_range] at hh
  have := lst_cell hh.1 hh.2
  unfold partsL
  have e : (headsL l).getD k 0 = (headsL l)[k] := by simp [hk]
  have e2 : ((headsL l).map (cellB l)).getD k 0 = cellB l (headsL l)[k] := by simp [hk]
  rw [e, e2]; exact this

def HeadsL (l : List (BitVec 256)) (w0 : World) (v i : Value) (w : World) : Prop := ∃ k, k ≤ (headsL l).length ∧ i = .int .i64 k ∧ Own8 w w0.heap.size v ((headsL l).take k) ∧ Below w0.heap.size w0 w

set_option maxRecDepth 1000000 in
set_option maxHeartbeats 16000000 in
theorem heads_any (l : List (BitVec 256)) (a : Option Addr) (cap : Nat) (w : World) (hr : LRow w a l) (hd : Deb w) (hl : l.length < 1073741824) :
    Calls Tryd.prog 11 #[.slice a l.length cap] w (AnsBytes w (headsL l)) := by
  have HD := Lib.hid hd
  have HP := Lib.hid (parts_any l a cap w hr hd hl)
  have hle := heads_le l
  have HPG := Lib.hid (parts_get l)
  have HLT := Lib.hid (heads_lt l)
  clear hr hd
  go_enter Tryd.func11, Tryd.ntmps11
  go_wp2_with fail
  refine HP.out.mono ?_
  rintro e w1 ⟨v, rfl, ⟨a1, cap1, rfl, hr1⟩, hb1⟩
  rw [parts_length]
  have HB1 := Lib.hid hb1
  have HR1 := Lib.hid hr1
  clear hb1 hr1 HP
  go_wp2
  go_loopw [3, 9] (HeadsL l w1) (fun _ i _ => (headsL l).length - (intOf i).toNat)
  case atStart => exact ⟨0, Nat.zero_le _, rfl, Own8.nil _ _, Below.refl _ _⟩
  case round =>
    obtain ⟨k, hk, rfl, ho, hb⟩ := hrel
    have HO := Lib.hid ho
    have HB := Lib.hid hb
    by_cases hlt : k < (headsL l).length
    · have hltz : (k : Int) < ((headsL l).length : Int) := by omega
      have hrow : LRow wr a1 (partsL l) := HR1.out.later hb
      obtain ⟨b, off, rfl, hbl, d0, d1, d2, d3⟩ := hrow.cells k (by rw [parts_length]; exact hlt)
      have hls := Lib.hid (HPG.out k hlt)
      have hnx : (headsL l).take (k + 1) = (headsL l).take k ++ [(headsL l).getD k 0] := by
        rw [List.take_succ_eq_append_getElem hlt]; simp [hlt]
      have hc := lstB_lt ((partsL l).getD k 0)
      have HNX := Lib.hid hnx
      have hsz := hb.size
      have hdw : Deb wr := (HD.out.below HB1.out).below hb
      have HDW := Lib.hid hdw
      clear hrow hnx ho hb hdw
      generalize (partsL l).getD k 0 = p at *
      go_wp2_with fail
      refine (sleast_any p _ (HDW.out.alloc _)).mono ?_
      rintro e w2 ⟨rfl, hb2⟩
      have ho2 : Own8 (w2.alloc (.cells #[.int .u8 (lstB p : Int)] 5)) w1.heap.size u3 ((headsL l).take k) := ((HO.out.later ((Below.refl _ _).alloc (Nat.le_refl _) (.cells (cells4 p) 29))).later hb2).later ((Below.refl _ _).alloc (Nat.le_refl _) _)
      have hs2 := hb2.size
      have hb3 : Below w1.heap.size w1 (w2.alloc (.cells #[.int .u8 (lstB p : Int)] 5)) := ((HB.out.alloc hsz _).trans (hb2.mono (by simp; omega))).alloc (by simp at hs2; omega) _
      have hbk := Blk.new w2 #[.int .u8 (lstB p : Int)] 5
      have HO2 := Lib.hid ho2
      have HB3 := Lib.hid hb3
      have HBK := Lib.hid hbk
      have hlen : ((headsL l).take k).length < 1073741824 := by rw [List.length_take]; omega
      have hsb := hb3.size
      clear hb2 ho2 hb3 hbk d0 d1 d2 d3 hs2
      generalize lstB p = c at *
      go_wp2_with (at_builtin; refine wpList_append_u8 rfl _ _ rfl w1.heap.size u3 ((headsL l).take k) rfl HO2.out w2.heap.size c rfl HBK.out hlen hsb ?_; intro v' w4 ho4 hb4)
      have HQ : Hid (Own8 w4 w1.heap.size v' ((headsL l).take (k + 1)) ∧ Below w1.heap.size w1 w4) := by
        rw [HNX.out, ← hls.out]
        exact ⟨ho4, HB3.out.trans (hb4 _ (Nat.le_refl _))⟩
      clear ho4 hb4
      go_wp2
      go_roundw
      case rel => exact ⟨k + 1, by omega, by go_num, HQ.out⟩
      case measure => simp [intOf]; omega
    · obtain rfl : k = (headsL l).length := by omega
      have HQ : Hid (IsBytes (headsL l) u3 wr ∧ Below w.heap.size w wr) := by
        rw [List.take_length] at ho
        exact ⟨ho.isBytes HLT.out (by omega), HB1.out.trans (hb.mono HB1.out.size)⟩
      clear ho hb HO HB
      go_wp2
      go_returns
      exact ⟨_, rfl, HQ.out⟩
end Go.Proofs.YtgehepiphdphjaaDoor
