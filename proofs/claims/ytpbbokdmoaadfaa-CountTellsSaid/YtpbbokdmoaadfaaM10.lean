/- SortStableFunc over a row of classes in the order by least bytes: the row is sorted, those of one least byte as they came. -/
import Derived.Test.YtpbbokdmoaadfaaM09
import Derived.Test.YtpbbokdmoaadfaaM08
import Derived.Test.YtpbbokdmoaadfaaM05
import Derived.Test.YtpbbokdmoaadfaaM03
import Derived.Laws.OwnMore
namespace Go.Proofs.Ytpbbokdmoaadfaa
open Go Go.RowKit
set_option linter.unusedVariables false
section
variable {base g : Nat} {l cur : List (BitVec 256)} {a : BitVec 256} {w0 : World} {k : Nat} {v : Value} {w w' : World}
end
def bytesV (l : List Nat) : List Value := l.map fun c : Nat => Value.int .u8 (c : Int)
def Own8 (w : World) (base : Nat) (v : Value) (l : List Nat) : Prop := w.ownsRow base 5 1 v l.length (bytesV l)
theorem Own8.nil (w : World) (base : Nat) : Own8 w base (.slice none 0 0) [] := ⟨rfl, .inl ⟨rfl, rfl⟩⟩
theorem Own8.later {w w' : World} {base : Nat} {v : Value} {l : List Nat} (h : Own8 w base v l) (hb : Below w.heap.size w w') : Own8 w' base v l := ownsRow_later h hb
theorem infoU8 : (Try.prog.info? 5).map (fun i => (i.zero, i.size, i.bytes)) = some (some (.int .u8 0), 1, 1) := by kernel_rfl
set_option linter.unusedSimpArgs false
def nats (W : List UInt8) : List Nat := W.map UInt8.toNat
theorem nats_length (W : List UInt8) : (nats W).length = W.length := List.length_map _
theorem nats_append (W V : List UInt8) : nats (W ++ V) = nats W ++ nats V := List.map_append
theorem bytesV_length (l : List Nat) : (bytesV l).length = l.length := by simp [bytesV]
theorem bytesV_append (l m : List Nat) : bytesV (l ++ m) = bytesV l ++ bytesV m := by simp [bytesV]
def IsW (W : List UInt8) (v : Value) (w : World) : Prop := (v = .slice none 0 0 /\ W = []) \/ ∃ b off cap, v = .slice (some ⟨b, off, none⟩) W.length cap /\ W.length <= cap /\ W.length <= 1073741824 /\ b < w.heap.size /\ ∀ i, i < W.length -> w.cell? ⟨b, off + i, none⟩ = some (.int .u8 (((W.getD i 0).toNat : Nat) : Int))
theorem IsW.nil (w : World) : IsW [] (.slice none 0 0) w := .inl ⟨rfl, rfl⟩
theorem IsW.later {W : List UInt8} {v : Value} {w w' : World} (h : IsW W v w) (hb : Below w.heap.size w w') : IsW W v w' := by
  rcases h with h | ⟨b, off, cap, h1, h2, h5, h3, h4⟩
  · exact .inl h
  · exact .inr ⟨b, off, cap, h1, h2, h5, Nat.lt_of_lt_of_le h3 hb.size, fun i hi => (hb.cell (p := ⟨b, off + i, none⟩) h3).trans (h4 i hi)⟩
theorem IsW.len {W : List UInt8} {v : Value} {w : World} (h : IsW W v w) : ∃ A cap, v = .slice A W.length cap /\ W.length <= cap := by
  rcases h with ⟨rfl, rfl⟩ | ⟨b, off, cap, rfl, h2, -⟩
  · exact ⟨none, 0, rfl, Nat.le_refl _⟩
  · exact ⟨_, cap, rfl, h2⟩
end Go.Proofs.Ytpbbokdmoaadfaa
