/- Numbers: walked. -/
import Derived.Test.YtgehepiphdphjaaDoorLexItems
import Derived.Lib.OthersKept
import Derived.WalkSpells
namespace Go.Proofs.YtgehepiphdphjaaDoor
open Go Go.RowKit
set_option linter.unusedVariables false

def numR (o : Option Nat) : Value := match o with
  | some n => .tuple #[.int .i64 (n : Int), .bool true]
  | none => .tuple #[.int .i64 0, .bool false]
structure NumS (w : World) (l : List UInt8) (pos n : Nat) (wr : World) : Prop where
  it : wr.heap[w.heap.size]? = some (.stringIter (bs l) pos)
  bel : Below w.heap.size w wr
  num : numF 0 l = numF n (l.drop pos)
def NumRel (w : World) (l : List UInt8) (v : Value) (wr : World) : Prop := ∃ pos n : Nat, n ≤ 256 ∧ pos ≤ l.length ∧ v = .int .i64 (n : Int) ∧ NumS w l pos n wr
theorem drop_at {l : List UInt8} {p : Nat} (h : p < l.length) : l.drop p = l.getD p 0 :: l.drop (p + 1) := by rw [List.drop_eq_getElem_cons h]; simp [h]
/-- A rune that is no digit: its byte is none. -/
theorem nodigit {l : List UInt8} {p : Nat} (h : p < l.length) (hr : ¬ (48 ≤ (Utf8.decode (bs l) p).1 ∧ (Utf8.decode (bs l) p).1 ≤ 57)) (n : Nat) : numF n (l.drop p) = none := by
  rw [drop_at h, numF]
  rcases Nat.lt_or_ge (l.getD p 0).toNat 128 with hb | hb
  · rw [dec_small l p hb] at hr; rw [if_neg hr]
  · rw [if_neg (by omega)]
theorem digit {l : List UInt8} {p : Nat} (h : p < l.length) (hr : 48 ≤ (Utf8.decode (bs l) p).1 ∧ (Utf8.decode (bs l) p).1 ≤ 57) : Utf8.decode (bs l) p = ((l.getD p 0).toNat, 1) := by
  rcases Nat.lt_or_ge (l.getD p 0).toNat 128 with hb | hb
  · exact dec_small l p hb
  · have := (dec_big l p h hb).1; omega

set_option maxHeartbeats 4000000 in
set_option maxRecDepth 100000 in
theorem num_short (l : List UInt8) (w : World) (hne : (bs l).toList.isEmpty = false) (h1 : ¬ (1 : Int) < ((bs l).size : Int)) :
    Calls Tryd.prog 89 #[.string (bs l)] w (Ans w (numR (numF 0 l))) := by
  obtain ⟨v0, hv0⟩ : ∃ v0, numR (numF 0 l) = v0 := ⟨_, rfl⟩
  have HV := Lib.hid hv0
  rw [hv0]
  clear hv0
  have h1' : ¬ ((bs l).size : Int) > 1 := h1
  go_enter Tryd.func89, Tryd.ntmps89
  go_wp2
  go_loopw [4] (NumRel w l) (fun v wr => l.length - wr.iterPos w.heap.size)
  case atStart => exact ⟨0, 0, by omega, Nat.zero_le _, rfl, (by have := World.iter_heap w (bs l) 0; simpa using this), (Below.refl _ _).alloc (Nat.le_refl _) _, rfl⟩
  case round =>
    obtain ⟨pos, n, hn, hpos, rfl, hs⟩ := hrel
    have HS := Lib.hid hs
    have hit := hs.it
    have HT := Lib.hid hit
    have hlt := (Array.getElem?_eq_some_iff.1 hit).1
    by_cases hp : pos < l.length
    · have hnx : ∀ ty, (Instr.next (.pointer (some ⟨w.heap.size, 0, none⟩)) true ty).run Tryd.prog wr = _ := fun ty => Lib.run_next_any_at wr w.heap.size (bs l) pos ty hit (by rw [bs_size]; exact hp)
      by_cases hr : 48 ≤ (Utf8.decode (bs l) pos).1 ∧ (Utf8.decode (bs l) pos).1 ≤ 57
      · have hdg := digit hp hr
        have HN : Hid (numF 0 l = numF (min (10 * n + ((Utf8.decode (bs l) pos).1 - 48)) 256) (l.drop (pos + 1))) := by
          unfold Hid; rw [hs.num, drop_at hp, numF]
          rw [hdg] at hr ⊢
          rw [if_pos hr]
        have hwd : (Utf8.decode (bs l) pos).2 = 1 := by rw [hdg]
        have HB := Lib.hid (Lib.below_iterAt hs.bel (k := w.heap.size) (Nat.le_refl _) (bs l) (pos + 1))
        have HI := Lib.hid (Lib.iterAt_heap wr w.heap.size (bs l) pos (pos + 1) hit)
        obtain ⟨r, hrr⟩ : ∃ r, (Utf8.decode (bs l) pos).1 = r := ⟨_, rfl⟩
        rw [hrr] at hr HN
        rw [hrr, hwd] at hnx
        clear hdg hwd hrr hs hit HS
        obtain ⟨r1, r2⟩ := hr
        have r3 : ¬ ((r : Int) < 48) := by omega
        have r4 : ¬ ((r : Int) > 57) := by omega
        have r5 : (0 : Int) ≤ (r : Int) - 48 := by omega
        have r6 : (r : Int) - 48 ≤ 9 := by omega
        have r7 : (0 : Int) ≤ 10 * (n : Int) := by omega
        have r8 : 10 * (n : Int) ≤ 2560 := by omega
        go_wp2
        go_roundw
        case rel => exact ⟨pos + 1, min (10 * n + (r - 48)) 256, by omega, by omega, by congr 1; omega, HI.out, HB.out, HN.out⟩
        case measure => simp only [World.iterPos, HI.out, HT.out]; omega
      · have HN := Lib.hid (nodigit hp hr n)
        have HNN : Hid (numF 0 l = none) := by unfold Hid; rw [hs.num, HN.out]
        have HR : Hid (v0 = .tuple #[.int .i64 0, .bool false]) := by unfold Hid; rw [← HV.out, HNN.out]; rfl
        have HB := Lib.hid (Lib.below_iterAt hs.bel (k := w.heap.size) (Nat.le_refl _) (bs l) (pos + (Utf8.decode (bs l) pos).2))
        have hbig : (Utf8.decode (bs l) pos).1 < 2147483648 := by
          rcases Nat.lt_or_ge (l.getD pos 0).toNat 128 with hb | hb
          · rw [dec_small l pos hb]; show (l.getD pos 0).toNat < _; omega
          · exact (dec_big l pos hp hb).2.1
        generalize pos + (Utf8.decode (bs l) pos).2 = q at *
        generalize (Utf8.decode (bs l) pos).1 = r at *
        clear hs hit HS HN HNN
        by_cases h48 : r < 48
        · have r3 : ((r : Int) < 48) := by omega
          go_wp2
          go_ret2
          exact ⟨by rw [HR.out]; rfl, HB.out⟩
        · have r3 : ¬ ((r : Int) < 48) := by omega
          have r4 : ((r : Int) > 57) := by omega
          have r4' : ((57 : Int) < (r : Int)) := by omega
          go_wp2
          go_ret2
          exact ⟨by rw [HR.out]; rfl, HB.out⟩
    · have hnx : ∀ ty, (Instr.next (.pointer (some ⟨w.heap.size, 0, none⟩)) true ty).run Tryd.prog wr = _ := fun ty => Lib.run_next_end_at wr w.heap.size (bs l) pos ty hit (by rw [bs_size]; exact hp)
      have HN : Hid (v0 = .tuple #[.int .i64 (n : Int), .bool true]) := by unfold Hid; rw [← HV.out, hs.num, List.drop_of_length_le (by omega), numF]; rfl
      clear hs hit
      go_wp2
      go_ret2
      exact ⟨by rw [HN.out]; rfl, HS.out.bel⟩
set_option maxHeartbeats 4000000 in
set_option maxRecDepth 100000 in
theorem num_long (l : List UInt8) (w : World) (hne : (bs l).toList.isEmpty = false) (h1 : (1 : Int) < ((bs l).size : Int)) (h0 : 0 < (bs l).size) (h48 : ((((bs l)[0]'h0).toNat : Int) == 48) = false) :
    Calls Tryd.prog 89 #[.string (bs l)] w (Ans w (numR (numF 0 l))) := by
  obtain ⟨v0, hv0⟩ : ∃ v0, numR (numF 0 l) = v0 := ⟨_, rfl⟩
  have HV := Lib.hid hv0
  rw [hv0]
  clear hv0
  have h1' : ((bs l).size : Int) > 1 := h1
  go_enter Tryd.func89, Tryd.ntmps89
  go_wp2
  go_loopw [4] (NumRel w l) (fun v wr => l.length - wr.iterPos w.heap.size)
  case atStart => exact ⟨0, 0, by omega, Nat.zero_le _, rfl, (by have := World.iter_heap w (bs l) 0; simpa using this), (Below.refl _ _).alloc (Nat.le_refl _) _, rfl⟩
  case round =>
    obtain ⟨pos, n, hn, hpos, rfl, hs⟩ := hrel
    have HS := Lib.hid hs
    have hit := hs.it
    have HT := Lib.hid hit
    have hlt := (Array.getElem?_eq_some_iff.1 hit).1
    by_cases hp : pos < l.length
    · have hnx : ∀ ty, (Instr.next (.pointer (some ⟨w.heap.size, 0, none⟩)) true ty).run Tryd.prog wr = _ := fun ty => Lib.run_next_any_at wr w.heap.size (bs l) pos ty hit (by rw [bs_size]; exact hp)
      by_cases hr : 48 ≤ (Utf8.decode (bs l) pos).1 ∧ (Utf8.decode (bs l) pos).1 ≤ 57
      · have hdg := digit hp hr
        have HN : Hid (numF 0 l = numF (min (10 * n + ((Utf8.decode (bs l) pos).1 - 48)) 256) (l.drop (pos + 1))) := by
          unfold Hid; rw [hs.num, drop_at hp, numF]
          rw [hdg] at hr ⊢
          rw [if_pos hr]
        have hwd : (Utf8.decode (bs l) pos).2 = 1 := by rw [hdg]
        have HB := Lib.hid (Lib.below_iterAt hs.bel (k := w.heap.size) (Nat.le_refl _) (bs l) (pos + 1))
        have HI := Lib.hid (Lib.iterAt_heap wr w.heap.size (bs l) pos (pos + 1) hit)
        obtain ⟨r, hrr⟩ : ∃ r, (Utf8.decode (bs l) pos).1 = r := ⟨_, rfl⟩
        rw [hrr] at hr HN
        rw [hrr, hwd] at hnx
        clear hdg hwd hrr hs hit HS
        obtain ⟨r1, r2⟩ := hr
        have r3 : ¬ ((r : Int) < 48) := by omega
        have r4 : ¬ ((r : Int) > 57) := by omega
        have r5 : (0 : Int) ≤ (r : Int) - 48 := by omega
        have r6 : (r : Int) - 48 ≤ 9 := by omega
        have r7 : (0 : Int) ≤ 10 * (n : Int) := by omega
        have r8 : 10 * (n : Int) ≤ 2560 := by omega
        go_wp2
        go_roundw
        case rel => exact ⟨pos + 1, min (10 * n + (r - 48)) 256, by omega, by omega, by congr 1; omega, HI.out, HB.out, HN.out⟩
        case measure => simp only [World.iterPos, HI.out, HT.out]; omega
      · have HN := Lib.hid (nodigit hp hr n)
        have HNN : Hid (numF 0 l = none) := by unfold Hid; rw [hs.num, HN.out]
        have HR : Hid (v0 = .tuple #[.int .i64 0, .bool false]) := by unfold Hid; rw [← HV.out, HNN.out]; rfl
        have HB := Lib.hid (Lib.below_iterAt hs.bel (k := w.heap.size) (Nat.le_refl _) (bs l) (pos + (Utf8.decode (bs l) pos).2))
        have hbig : (Utf8.decode (bs l) pos).1 < 2147483648 := by
          rcases Nat.lt_or_ge (l.getD pos 0).toNat 128 with hb | hb
          · rw [dec_small l pos hb]; show (l.getD pos 0).toNat < _; omega
          · exact (dec_big l pos hp hb).2.1
        generalize pos + (Utf8.decode (bs l) pos).2 = q at *
        generalize (Utf8.decode (bs l) pos).1 = r at *
        clear hs hit HS HN HNN
        by_cases h48 : r < 48
        · have r3 : ((r : Int) < 48) := by omega
          go_wp2
          go_ret2
          exact ⟨by rw [HR.out]; rfl, HB.out⟩
        · have r3 : ¬ ((r : Int) < 48) := by omega
          have r4 : ((r : Int) > 57) := by omega
          have r4' : ((57 : Int) < (r : Int)) := by omega
          go_wp2
          go_ret2
          exact ⟨by rw [HR.out]; rfl, HB.out⟩
    · have hnx : ∀ ty, (Instr.next (.pointer (some ⟨w.heap.size, 0, none⟩)) true ty).run Tryd.prog wr = _ := fun ty => Lib.run_next_end_at wr w.heap.size (bs l) pos ty hit (by rw [bs_size]; exact hp)
      have HN : Hid (v0 = .tuple #[.int .i64 (n : Int), .bool true]) := by unfold Hid; rw [← HV.out, hs.num, List.drop_of_length_le (by omega), numF]; rfl
      clear hs hit
      go_wp2
      go_ret2
      exact ⟨by rw [HN.out]; rfl, HS.out.bel⟩
set_option maxHeartbeats 4000000 in
set_option maxRecDepth 100000 in
theorem num_zero (s : ByteArray) (w : World) (hne : s.toList.isEmpty = false) (h1 : (1 : Int) < (s.size : Int)) (h0 : 0 < s.size) (h48 : (((s[0]'h0).toNat : Int) == 48) = true) :
    Calls Tryd.prog 89 #[.string s] w (Ans w (.tuple #[.int .i64 0, .bool false])) := by
  go_enter Tryd.func89, Tryd.ntmps89
  go_wp2
  go_ret2
  exact ⟨rfl, Below.refl _ _⟩
theorem num_empty (w : World) : Calls Tryd.prog 89 #[.string ⟨#[]⟩] w (Ans w (.tuple #[.int .i64 0, .bool false])) := by
  go_enter Tryd.func89, Tryd.ntmps89
  go_wp2
  go_ret2
  exact ⟨rfl, Below.refl _ _⟩
theorem num_any (l : List UInt8) (w : World) : Calls Tryd.prog 89 #[.string (bs l)] w (Ans w (numR (numV l))) := by
  match l with
  | [] => exact num_empty w
  | [a] =>
    have e : numV [a] = numF 0 [a] := by unfold numV; rw [if_neg (by simp)]
    rw [e]
    exact num_short [a] w (by rw [Lib.toList_data, bs_data]; rfl) (by rw [bs_size]; simp)
  | a :: b :: l =>
    have hs : (bs (a :: b :: l)).size = l.length + 2 := by rw [bs_size]; simp
    by_cases h : a = 48
    · have e : numV (a :: b :: l) = none := by unfold numV; rw [if_pos (by simp [h])]
      rw [e]
      exact num_zero _ w (by rw [Lib.toList_data, bs_data]; rfl) (by rw [hs]; omega) (by rw [hs]; omega) (by rw [bs_get]; simp [h])
    · have e : numV (a :: b :: l) = numF 0 (a :: b :: l) := by unfold numV; rw [if_neg (by simp [h])]
      rw [e]
      exact num_long _ w (by rw [Lib.toList_data, bs_data]; rfl) (by rw [hs]; omega) (by rw [hs]; omega) (by
        rw [bs_get, beq_eq_false_iff_ne]
        intro e2
        apply h
        simp at e2
        apply UInt8.toNat_inj.1
        show a.toNat = 48
        omega)
end Go.Proofs.YtgehepiphdphjaaDoor
