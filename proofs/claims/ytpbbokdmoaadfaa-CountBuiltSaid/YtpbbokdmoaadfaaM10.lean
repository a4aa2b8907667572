/- SortStableFunc over a row of classes in the order by least bytes: the row is sorted, those of one least byte as they came. -/
import Derived.Test.YtpbbokdmoaadfaaM09
import Derived.Test.YtpbbokdmoaadfaaM08
import Derived.Test.YtpbbokdmoaadfaaM05
import Derived.Test.YtpbbokdmoaadfaaM03
import Derived.Laws.OwnMore
namespace Go.Proofs.Ytpbbokdmoaadfaa
open Go Go.RowKit
set_option linter.unusedVariables false
section
variable {base g : Nat} {l cur : List (BitVec 256)} {a : BitVec 256} {w0 : World} {k : Nat} {v : Value} {w w' : World}
end
def bytesV (l : List Nat) : List Value := l.map fun c : Nat => Value.int .u8 (c : Int)
def Own8 (w : World) (base : Nat) (v : Value) (l : List Nat) : Prop := w.ownsRow base 5 1 v l.length (bytesV l)
theorem Own8.nil (w : World) (base : Nat) : Own8 w base (.slice none 0 0) [] := ⟨rfl, .inl ⟨rfl, rfl⟩⟩
theorem Own8.later {w w' : World} {base : Nat} {v : Value} {l : List Nat} (h : Own8 w base v l) (hb : Below w.heap.size w w') : Own8 w' base v l := ownsRow_later h hb
theorem infoU8 : (Try.prog.info? 5).map (fun i => (i.zero, i.size, i.bytes)) = some (some (.int .u8 0), 1, 1) := by kernel_rfl
set_option linter.unusedSimpArgs false
def nats (W : List UInt8) : List Nat := W.map UInt8.toNat
theorem nats_length (W : List UInt8) : (nats W).length = W.length := List.length_map _
theorem nats_append (W V : List UInt8) : nats (W ++ V) = nats W ++ nats V := List.map_append
theorem bytesV_length (l : List Nat) : (bytesV l).length = l.length := by simp [bytesV]
theorem bytesV_append (l m : List Nat) : bytesV (l ++ m) = bytesV l ++ bytesV m := by simp [bytesV]
theorem bytesV_ones (l : List Nat) (u : Value) (h : u ∈ bytesV l) : u.oneCell' = true := by
  unfold bytesV at h
  obtain ⟨x, _, rfl⟩ := List.mem_map.1 h
  rfl
def IsW (W : List UInt8) (v : Value) (w : World) : Prop := (v = .slice none 0 0 ∧ W = []) ∨ ∃ b off cap, v = .slice (some ⟨b, off, none⟩) W.length cap ∧ W.length ≤ cap ∧ W.length ≤ 1073741824 ∧ b < w.heap.size ∧ ∀ i, i < W.length → w.cell? ⟨b, off + i, none⟩ = some (.int .u8 (((W.getD i 0).toNat : Nat) : Int))
theorem IsW.nil (w : World) : IsW [] (.slice none 0 0) w := .inl ⟨rfl, rfl⟩
theorem IsW.later {W : List UInt8} {v : Value} {w w' : World} (h : IsW W v w) (hb : Below w.heap.size w w') : IsW W v w' := by
  rcases h with h | ⟨b, off, cap, h1, h2, h5, h3, h4⟩
  · exact .inl h
  · exact .inr ⟨b, off, cap, h1, h2, h5, Nat.lt_of_lt_of_le h3 hb.size, fun i hi => (hb.cell (p := ⟨b, off + i, none⟩) h3).trans (h4 i hi)⟩
theorem IsW.len {W : List UInt8} {v : Value} {w : World} (h : IsW W v w) : ∃ A cap, v = .slice A W.length cap ∧ W.length ≤ cap := by
  rcases h with ⟨rfl, rfl⟩ | ⟨b, off, cap, rfl, h2, -⟩
  · exact ⟨none, 0, rfl, Nat.le_refl _⟩
  · exact ⟨_, cap, rfl, h2⟩
theorem own_isW {w : World} {base : Nat} {v : Value} {W : List UInt8} (h : Own8 w base v (nats W)) (hm : W.length ≤ 1073741824) : IsW W v w := by
  obtain ⟨_, ⟨hv, hn⟩ | ⟨g, cap, cur, hv, hb, hg, hc, hm2, hs, ht⟩⟩ := h
  · rw [nats_length] at hn
    exact .inl ⟨hv, List.length_eq_zero_iff.1 hn⟩
  · rw [nats_length] at hv hc ht
    refine .inr ⟨g, 0, cap, hv, hc, hm, Blk.lt (w := w) (b := g) (vs := cur) (t := 5) hg, fun i hi => ?_⟩
    rw [Blk.cell (w := w) (b := g) (vs := cur) (t := 5) hg]
    have : (bytesV (nats W))[i]? = some (.int .u8 (((W.getD i 0).toNat : Nat) : Int)) := by unfold bytesV nats; simp [hi]
    rw [← this, ← ht, List.getElem?_take, if_pos (by omega)]
    simp
theorem own_new {w : World} {W : List UInt8} {cs : Array Value} (hc : cs.toList = bytesV (nats W)) (hm : W.length ≤ 1000) : Own8 (w.alloc (.cells cs 5)) w.heap.size (.slice (some ⟨w.heap.size, 0, none⟩) W.length W.length) (nats W) := by
  have hs : cs.size = W.length := by rw [← Array.length_toList, hc, bytesV_length, nats_length]
  refine ⟨by rw [bytesV_length, Nat.mul_one], .inr ⟨w.heap.size, W.length, cs, by rw [nats_length], Nat.le_refl _, Blk.new w _ _, by rw [nats_length]; exact Nat.le_refl _, by unfold maxLen; omega, by rw [hs, Nat.mul_one], ?_⟩⟩
  rw [List.take_of_length_le (by rw [hc, bytesV_length, Nat.mul_one]; exact Nat.le_refl _), hc]
set_option maxRecDepth 100000 in
theorem wp_append_w {w : World} {o : Oper} {a : Act} {K : Act → World → Prop} {Q : Exit → Act → World → Prop} (s x : Operand)
    (ho : o.op = .call { callee := .builtin .append, args := #[s, x], argTypes := #[25, 25] })
    (base : Nat) (v : Value) (W : List UInt8) (hs : a.eval s = v) (hown : Own8 w base v (nats W))
    (V : List UInt8) (u : Value) (hx : a.eval x = u) (hV : IsW V u w) (hlen : W.length + V.length < 1073741824) (hbase : base ≤ w.heap.size)
    (h : ∀ v' w', Own8 w' base v' (nats (W ++ V)) → w.grownBy w' v.ownBlock → K (a.put o.dst v') w') : o.wp Try.prog a w K Q := by
  obtain ⟨ib, hib, hz0, hz1, hz2⟩ := info_parts infoU8
  rcases hV with ⟨rfl, rfl⟩ | ⟨b, off, cap, rfl, hcap, h5, hlt, hc⟩
  · have hr := run_append_owned_none (P := Try.prog) (w := w) base 25 o.type 5 ib 1 Try.underlying25 hib v _ _ hown
    unfold Oper.wp execOp
    simp only [ho, resolve, invoke, builtin, Sem.run_bind, Sem.run_pure, Result.andThen_ok, List.map_toArray, List.map_cons, List.map_nil, hs, hx, hr]
    exact h v w (by rw [List.append_nil]; exact hown) (World.grownBy.refl _ _)
  · have hnews : ∀ (j : Nat) (u : Value), (bytesV (nats V))[j]? = some u → w.cell? ((⟨b, off, none⟩ : Addr).add j) = some u := by
      intro j u hu
      have hj : j < V.length := by rw [← nats_length, ← bytesV_length]; exact (List.getElem?_eq_some_iff.1 hu).1
      have hadd : (⟨b, off, none⟩ : Addr).add j = ⟨b, off + j, none⟩ := by unfold Addr.add; split <;> simp_all
      rw [hadd, hc j hj, ← hu]
      unfold bytesV nats
      simp [hj]
    have hown0 : w.ownsRow base 5 1 v (nats W).length (bytesV (nats W)) := hown
    obtain ⟨v', w', hr, h2, h3, _⟩ := run_append_own (P := Try.prog) w base 25 o.type 5 ib _ 1 1 Try.underlying25 hib hz0 hz1 hz2 rfl (by decide) v (nats W).length (bytesV (nats W)) hown0 ⟨b, off, none⟩ V.length cap (bytesV (nats V)) (by rw [bytesV_length, nats_length, Nat.mul_one]) hnews (bytesV_ones _) (by rw [nats_length]; unfold maxLen; omega) (by rw [nats_length]; omega) hbase
    unfold Oper.wp execOp
    simp only [ho, resolve, invoke, builtin, Sem.run_bind, Sem.run_pure, Result.andThen_ok, List.map_toArray, List.map_cons, List.map_nil, hs, hx, hr]
    exact h v' w' (by unfold Own8; rw [nats_append, bytesV_append, List.length_append, nats_length V]; exact h2) h3
end Go.Proofs.Ytpbbokdmoaadfaa
