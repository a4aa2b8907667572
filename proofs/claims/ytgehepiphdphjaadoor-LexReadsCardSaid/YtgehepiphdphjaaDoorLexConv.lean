/- Bytes of a new row made a string. -/
import Derived.Test.YtgehepiphdphjaaDoorLexStr
import Derived.Laws.BytesString
import Derived.Laws.Cells
namespace Go.Proofs.YtgehepiphdphjaaDoor
open Go Go.RowKit
set_option linter.unusedVariables false

def u8s (l : List UInt8) : List Value := l.map fun c => Value.int .u8 (c.toNat : Int)
theorem push_all : ∀ (l s : List UInt8), (l.map fun c => (c.toNat : Int)).foldl (fun (r : ByteArray) n => r.push (UInt8.ofNat n.toNat)) (bs s) = bs (s ++ l)
  | [], s => by simp
  | c :: l, s => by
    rw [List.map_cons, List.foldl_cons]
    have h : (bs s).push (UInt8.ofNat ((c.toNat : Int)).toNat) = bs (s ++ [c]) := by
      rw [Int.toNat_natCast, UInt8.ofNat_toNat]
      unfold bs ByteArray.push
      simp
    rw [h, push_all l (s ++ [c])]
    simp
/-- A new row of bytes. -/
def NewB (l : List UInt8) (v : Value) (w : World) : Prop := ∃ b, v = .slice (some ⟨b, 0, none⟩) l.length l.length ∧ Blk w b (u8s l).toArray 5
theorem NewB.later (l : List UInt8) (v : Value) (w w' : World) (h : NewB l v w) (hb : Below w.heap.size w w') : NewB l v w' := by
  obtain ⟨b, hv, h⟩ := h
  exact ⟨b, hv, h.later hb⟩
theorem conv_newb {l : List UInt8} {v : Value} {w : World} (h : NewB l v w) : (convert 25 9 v).run Tryd.prog w = .ok (.string (bs l)) w := by
  obtain ⟨b, rfl, h⟩ := h
  rw [run_convert_bytes_string w _ _ 5 _ _ _ Tryd.underlying25 Tryd.underlying5 Tryd.underlying9]
  rw [run_bytesToString w _ _ _ (l.map fun c => (c.toNat : Int))]
  · rw [show ByteArray.empty = bs [] from rfl, push_all]; rfl
  · have := run_loadCells_list (P := Tryd.prog) (w := w) ⟨b, 0, none⟩ (u8s l) (fun j v hj => by
      have hc := h.cell j
      rw [show (⟨b, 0, none⟩ : Addr).add j = ⟨b, j, none⟩ by unfold Addr.add; split <;> simp_all, hc]; simpa using hj)
    rw [show (u8s l).length = l.length from List.length_map _] at this
    rw [this]
    unfold u8s; rw [List.map_map]; rfl
end Go.Proofs.YtgehepiphdphjaaDoor
