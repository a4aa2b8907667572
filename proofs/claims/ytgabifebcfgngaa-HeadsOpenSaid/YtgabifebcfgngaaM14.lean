/- splitAll of package split: each class of a row that the other one splits is cut in two, within the row's own memory. -/
import Derived.Test.YtgabifebcfgngaaM13
import Derived.Test.YtgabifebcfgngaaM04
import Derived.Laws.OwnMore
namespace Go.Proofs.Ytgabifebcfgngaa
open Go Go.RowKit
set_option linter.unusedVariables false

section
variable {base g : Nat} {l cur : List (BitVec 256)} {a : BitVec 256} {w0 : World} {k : Nat} {v : Value} {w w' : World}
end

end Go.Proofs.Ytgabifebcfgngaa
/- Parts and Heads of package split: the parts of a list of classes, by least bytes, and their least bytes. -/
namespace Go.Proofs.Ytgabifebcfgngaa
open Go Go.RowKit
set_option linter.unusedVariables false

end Go.Proofs.Ytgabifebcfgngaa
/- Heads of package split, and what the document's package tells two rows by: the same classes, the same bytes. -/
namespace Go.Proofs.Ytgabifebcfgngaa
open Go Go.RowKit
set_option linter.unusedVariables false

/-! ### rows of bytes that a call owns -/
def bytesV (l : List Nat) : List Value := l.map fun c : Nat => Value.int .u8 (c : Int)
theorem bytesV_snoc (l : List Nat) (c : Nat) : bytesV (l ++ [c]) = bytesV l ++ [.int .u8 (c : Int)] := by simp [bytesV]
/-- A value that is a row of these bytes. -/
def IsBytes (l : List Nat) (v : Value) (w : World) : Prop := ∃ a cap, v = .slice a l.length cap ∧ Row8 w a l
theorem Row8.later' {w w' : World} {a : Option Addr} {l : List Nat} (h : Row8 w a l) (hb : Below w.heap.size w w') : Row8 w' a l :=
  ⟨h.1, h.2.1, fun i hi => by
    obtain ⟨b, off, ha, hl, hc⟩ := h.2.2 i hi
    exact ⟨b, off, ha, Nat.lt_of_lt_of_le hl hb.size, (hb.cell (p := ⟨b, off + i, none⟩) hl).trans hc⟩⟩
theorem IsBytes.later (l : List Nat) (v : Value) (w w' : World) (h : IsBytes l v w) (hb : Below w.heap.size w w') : IsBytes l v w' := by
  obtain ⟨a, cap, hv, hr⟩ := h
  exact ⟨a, cap, hv, hr.later' hb⟩
def Own8 (w : World) (base : Nat) (v : Value) (l : List Nat) : Prop := w.ownsRow base 5 1 v l.length (bytesV l)
theorem Own8.nil (w : World) (base : Nat) : Own8 w base (.slice none 0 0) [] := ⟨rfl, .inl ⟨rfl, rfl⟩⟩
theorem Own8.later {w w' : World} {base : Nat} {v : Value} {l : List Nat} (h : Own8 w base v l) (hb : Below w.heap.size w w') : Own8 w' base v l := ownsRow_later h hb
theorem infoU8 : (Try.prog.info? 5).map (fun i => (i.zero, i.size, i.bytes)) = some (some (.int .u8 0), 1, 1) := by kernel_rfl

/-- An append of a byte to a row of its own. -/
theorem wp_append_u8 {w : World} {o : Oper} {a : Act} {K : Act → World → Prop} {Q : Exit → Act → World → Prop} (s x : Operand)
    (ho : o.op = .call { callee := .builtin .append, args := #[s, x], argTypes := #[94, 94] })
    (base : Nat) (v : Value) (l : List Nat) (hs : a.eval s = v) (hown : Own8 w base v l)
    (b : Nat) (c : Nat) (hx : a.eval x = .slice (some ⟨b, 0, none⟩) 1 1) (hnew : Blk w b #[.int .u8 (c : Int)] 5) (hlen : l.length < 1073741824) (hbase : base ≤ w.heap.size)
    (h : ∀ v' w', Own8 w' base v' (l ++ [c]) → (∀ B, B ≤ base → Below B w w') → K (a.put o.dst v') w') : o.wp Try.prog a w K Q := by
  obtain ⟨ib, hib, hz0, hz1, hz2⟩ := info_parts infoU8
  have hnews : ∀ (j : Nat) (u : Value), [Value.int .u8 (c : Int)][j]? = some u → w.cell? ((⟨b, 0, none⟩ : Addr).add j) = some u := by
    intro j u hu
    cases j with
    | zero => simp at hu; subst hu; exact hnew.cell 0
    | succ j => simp at hu
  refine wp_append_own w s x 94 ho base 5 ib _ 1 1 Try.underlying94 hib hz0 hz1 hz2 rfl (by decide) v l.length (bytesV l) hs hown ⟨b, 0, none⟩ 1 1 [.int .u8 (c : Int)] hx rfl hnews (by simp [Value.oneCell']) (by unfold maxLen; omega) (by omega) hbase ?_
  intro v' w' h1 h2 _
  refine h v' w' (by unfold Own8; rw [List.length_append, bytesV_snoc]; exact h1) fun B hB => ?_
  exact (Below.refl B w).grown h2 (Nat.le_trans hB hbase) fun k hk => Nat.le_trans hB ((World.ownsRow.lt hown k hk).1)

theorem wpList_append_u8 {w : World} {ops : Array Oper} {rest : List Oper} {o : Oper} {a : Act} {Q : Exit → Act → World → Prop} (hgd : o.guard = none) (s x : Operand)
    (ho : o.op = .call { callee := .builtin .append, args := #[s, x], argTypes := #[94, 94] })
    (base : Nat) (v : Value) (l : List Nat) (hs : a.eval s = v) (hown : Own8 w base v l)
    (b : Nat) (c : Nat) (hx : a.eval x = .slice (some ⟨b, 0, none⟩) 1 1) (hnew : Blk w b #[.int .u8 (c : Int)] 5) (hlen : l.length < 1073741824) (hbase : base ≤ w.heap.size)
    (h : ∀ v' w', Own8 w' base v' (l ++ [c]) → (∀ B, B ≤ base → Below B w w') → wpList Try.prog ops Q rest (a.put o.dst v') w') : wpList Try.prog ops Q (o :: rest) a w :=
  wpList_plain hgd fun K hK => wp_append_u8 s x ho base v l hs hown b c hx hnew hlen hbase fun v' w' h1 h2 => hK _ _ (h v' w' h1 h2)
end Go.Proofs.Ytgabifebcfgngaa
/- Words in memory. -/
namespace Go.Proofs.Ytgabifebcfgngaa
open Go Go.RowKit
set_option linter.unusedVariables false
set_option linter.unusedSimpArgs false

def nats (W : List UInt8) : List Nat := W.map UInt8.toNat
theorem nats_length (W : List UInt8) : (nats W).length = W.length := List.length_map _
theorem nats_append (W V : List UInt8) : nats (W ++ V) = nats W ++ nats V := List.map_append
theorem nats_lt (W : List UInt8) : ∀ c ∈ nats W, c < 256 := fun c hc => by
  obtain ⟨x, _, rfl⟩ := List.mem_map.1 hc
  exact x.toNat_lt
/-- A word that is handed on: nothing, or a row of its bytes. -/
def IsW (W : List UInt8) (v : Value) (w : World) : Prop := (v = .slice none 0 0 ∧ W = []) ∨ ∃ b off cap, v = .slice (some ⟨b, off, none⟩) W.length cap ∧ W.length ≤ cap ∧ W.length ≤ 1073741824 ∧ b < w.heap.size ∧ ∀ i, i < W.length → w.cell? ⟨b, off + i, none⟩ = some (.int .u8 (((W.getD i 0).toNat : Nat) : Int))
theorem IsW.nil (w : World) : IsW [] (.slice none 0 0) w := .inl ⟨rfl, rfl⟩
theorem IsW.later {W : List UInt8} {v : Value} {w w' : World} (h : IsW W v w) (hb : Below w.heap.size w w') : IsW W v w' := by
  rcases h with h | ⟨b, off, cap, h1, h2, h5, h3, h4⟩
  · exact .inl h
  · exact .inr ⟨b, off, cap, h1, h2, h5, Nat.lt_of_lt_of_le h3 hb.size, fun i hi => (hb.cell (p := ⟨b, off + i, none⟩) h3).trans (h4 i hi)⟩
theorem IsW.bytes {W : List UInt8} {v : Value} {w : World} (h : IsW W v w) : IsBytes (nats W) v w := by
  rcases h with ⟨rfl, rfl⟩ | ⟨b, off, cap, rfl, h2, h5, h3, h4⟩
  · exact ⟨none, 0, rfl, by simp [nats], by simp [nats], fun i hi => by simp [nats] at hi⟩
  · refine ⟨some ⟨b, off, none⟩, cap, by rw [nats_length], nats_lt W, by rw [nats_length]; omega, fun i hi => ⟨b, off, rfl, h3, ?_⟩⟩
    rw [nats_length] at hi
    rw [h4 i hi]
    unfold nats
    simp [hi]
theorem IsW.len {W : List UInt8} {v : Value} {w : World} (h : IsW W v w) : ∃ A cap, v = .slice A W.length cap ∧ W.length ≤ cap := by
  rcases h with ⟨rfl, rfl⟩ | ⟨b, off, cap, rfl, h2, -⟩
  · exact ⟨none, 0, rfl, Nat.le_refl _⟩
  · exact ⟨_, cap, rfl, h2⟩
theorem own_isW {w : World} {base : Nat} {v : Value} {W : List UInt8} (h : Own8 w base v (nats W)) (hm : W.length ≤ 1073741824) : IsW W v w := by
  obtain ⟨_, ⟨hv, hn⟩ | ⟨g, cap, cur, hv, hb, hg, hc, hm2, hs, ht⟩⟩ := h
  · rw [nats_length] at hn
    exact .inl ⟨hv, List.length_eq_zero_iff.1 hn⟩
  · rw [nats_length] at hv hc ht
    refine .inr ⟨g, 0, cap, hv, hc, hm, Blk.lt (w := w) (b := g) (vs := cur) (t := 5) hg, fun i hi => ?_⟩
    rw [Blk.cell (w := w) (b := g) (vs := cur) (t := 5) hg]
    have : (bytesV (nats W))[i]? = some (.int .u8 (((W.getD i 0).toNat : Nat) : Int)) := by unfold bytesV nats; simp [hi]
    rw [← this, ← ht, List.getElem?_take, if_pos (by omega)]
    simp
end Go.Proofs.Ytgabifebcfgngaa
