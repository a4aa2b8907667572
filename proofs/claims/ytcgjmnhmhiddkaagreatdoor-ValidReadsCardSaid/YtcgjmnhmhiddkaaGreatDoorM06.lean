/- Numbers: walked. -/
import Derived.Test.YtcgjmnhmhiddkaaGreatDoorM05
import Derived.Test.YtcgjmnhmhiddkaaGreatDoorM04
import Derived.Lib.OthersKept
import Derived.WalkSpells
namespace Go.Proofs.YtcgjmnhmhiddkaaGreatDoor
open Go Go.RowKit
set_option linter.unusedVariables false
def numR (o : Option Nat) : Value := match o with
  | some n => .tuple #[.int .i64 (n : Int), .bool true]
  | none => .tuple #[.int .i64 0, .bool false]
structure NumS (w : World) (l : List UInt8) (pos n : Nat) (wr : World) : Prop where
  it : wr.heap[w.heap.size]? = some (.stringIter (bs l) pos)
  bel : Below w.heap.size w wr
  num : numF 0 l = numF n (l.drop pos)
def NumRel (w : World) (l : List UInt8) (v : Value) (wr : World) : Prop := ∃ pos n : Nat, n ≤ 256 ∧ pos ≤ l.length ∧ v = .int .i64 (n : Int) ∧ NumS w l pos n wr
theorem drop_at {l : List UInt8} {p : Nat} (h : p < l.length) : l.drop p = l.getD p 0 :: l.drop (p + 1) := by rw [List.drop_eq_getElem_cons h]; simp [h]
theorem nodigit {l : List UInt8} {p : Nat} (h : p < l.length) (hr : ¬ (48 ≤ (Utf8.decode (bs l) p).1 ∧ (Utf8.decode (bs l) p).1 ≤ 57)) (n : Nat) : numF n (l.drop p) = none := by
  rw [drop_at h, numF]
  rcases Nat.lt_or_ge (l.getD p 0).toNat 128 with hb | hb
  · rw [dec_small l p hb] at hr; rw [if_neg hr]
  · rw [if_neg (by omega)]
theorem digit {l : List UInt8} {p : Nat} (h : p < l.length) (hr : 48 ≤ (Utf8.decode (bs l) p).1 ∧ (Utf8.decode (bs l) p).1 ≤ 57) : Utf8.decode (bs l) p = ((l.getD p 0).toNat, 1) := by
  rcases Nat.lt_or_ge (l.getD p 0).toNat 128 with hb | hb
  · exact dec_small l p hb
  · have := (dec_big l p h hb).1; omega
set_option maxHeartbeats 4000000 in
set_option maxRecDepth 100000 in
theorem num_short (l : List UInt8) (w : World) (hne : (bs l).toList.isEmpty = false) (h1 : ¬ (1 : Int) < ((bs l).size : Int)) :
    Calls Tryz.prog 136 #[.string (bs l)] w (Ans w (numR (numF 0 l))) := by
  obtain ⟨v0, hv0⟩ : ∃ v0, numR (numF 0 l) = v0 := ⟨_, rfl⟩
  have HV := Lib.hid hv0
  rw [hv0]
  clear hv0
  have h1' : ¬ ((bs l).size : Int) > 1 := h1
  go_enter Tryz.func136, Tryz.ntmps136
  go_wp2
  go_loopw [4] (NumRel w l) (fun v wr => l.length - wr.iterPos w.heap.size)
  case atStart => exact ⟨0, 0, by omega, Nat.zero_le _, rfl, (by have := World.iter_heap w (bs l) 0; simpa using this), (Below.refl _ _).alloc (Nat.le_refl _) _, rfl⟩
  case round =>
    obtain ⟨pos, n, hn, hpos, rfl, hs⟩ := hrel
    have HS := Lib.hid hs
    have hit := hs.it
    have HT := Lib.hid hit
    have hlt := (Array.getElem?_eq_some_iff.1 hit).1
    by_cases hp : pos < l.length
    · have hnx : ∀ ty, (Instr.next (.pointer (some ⟨w.heap.size, 0, none⟩)) true ty).run Tryz.prog wr = _ := fun ty => Lib.run_next_any_at wr w.heap.size (bs l) pos ty hit (by rw [bs_size]; exact hp)
      by_cases hr : 48 ≤ (Utf8.decode (bs l) pos).1 ∧ (Utf8.decode (bs l) pos).1 ≤ 57
      · have hdg := digit hp hr
        have HN : Hid (numF 0 l = numF (min (10 * n + ((Utf8.decode (bs l) pos).1 - 48)) 256) (l.drop (pos + 1))) := by
          unfold Hid; rw [hs.num, drop_at hp, numF]
          rw [hdg] at hr ⊢
          rw [if_pos hr]
        have hwd : (Utf8.decode (bs l) pos).2 = 1 := by rw [hdg]
        have HB := Lib.hid (Lib.below_iterAt hs.bel (k := w.heap.size) (Nat.le_refl _) (bs l) (pos + 1))
        have HI := Lib.hid (Lib.iterAt_heap wr w.heap.size (bs l) pos (pos + 1) hit)
        obtain ⟨r, hrr⟩ : ∃ r, (Utf8.decode (bs l) pos).1 = r := ⟨_, rfl⟩
        rw [hrr] at hr HN
        rw [hrr, hwd] at hnx
        clear hdg hwd hrr hs hit HS
        obtain ⟨r1, r2⟩ := hr
        have r3 : ¬ ((r : Int) < 48) := by omega
        have r4 : ¬ ((r : Int) > 57) := by omega
        have r5 : (0 : Int) ≤ (r : Int) - 48 := by omega
        have r6 : (r : Int) - 48 ≤ 9 := by omega
        have r7 : (0 : Int) ≤ 10 * (n : Int) := by omega
        have r8 : 10 * (n : Int) ≤ 2560 := by omega
        go_wp2
        go_roundw
        case rel => exact ⟨pos + 1, min (10 * n + (r - 48)) 256, by omega, by omega, by congr 1; omega, HI.out, HB.out, HN.out⟩
        case measure => simp only [World.iterPos, HI.out, HT.out]; omega
      · have HN := Lib.hid (nodigit hp hr n)
        have HNN : Hid (numF 0 l = none) := by unfold Hid; rw [hs.num, HN.out]
        have HR : Hid (v0 = .tuple #[.int .i64 0, .bool false]) := by unfold Hid; rw [← HV.out, HNN.out]; rfl
        have HB := Lib.hid (Lib.below_iterAt hs.bel (k := w.heap.size) (Nat.le_refl _) (bs l) (pos + (Utf8.decode (bs l) pos).2))
        have hbig : (Utf8.decode (bs l) pos).1 < 2147483648 := by
          rcases Nat.lt_or_ge (l.getD pos 0).toNat 128 with hb | hb
          · rw [dec_small l pos hb]; show (l.getD pos 0).toNat < _; omega
          · exact (dec_big l pos hp hb).2.1
        generalize pos + (Utf8.decode (bs l) pos).2 = q at *
        generalize (Utf8.decode (bs l) pos).1 = r at *
        clear hs hit HS HN HNN
        by_cases h48 : r < 48
        · have r3 : ((r : Int) < 48) := by omega
          go_wp2
          go_ret2
          exact ⟨by rw [HR.out]; rfl, HB.out⟩
        · have r3 : ¬ ((r : Int) < 48) := by omega
          have r4 : ((r : Int) > 57) := by omega
          have r4' : ((57 : Int) < (r : Int)) := by omega
          go_wp2
          go_ret2
          exact ⟨by rw [HR.out]; rfl, HB.out⟩
    · have hnx : ∀ ty, (Instr.next (.pointer (some ⟨w.heap.size, 0, none⟩)) true ty).run Tryz.prog wr = _ := fun ty => Lib.run_next_end_at wr w.heap.size (bs l) pos ty hit (by rw [bs_size]; exact hp)
      have HN : Hid (v0 = .tuple #[.int .i64 (n : Int), .bool true]) := by unfold Hid; rw [← HV.out, hs.num, List.drop_of_length_le (by omega), numF]; rfl
      clear hs hit
      go_wp2
      go_ret2
      exact ⟨by rw [HN.out]; rfl, HS.out.bel⟩
set_option maxHeartbeats 4000000 in
set_option maxRecDepth 100000 in
theorem num_long (l : List UInt8) (w : World) (hne : (bs l).toList.isEmpty = false) (h1 : (1 : Int) < ((bs l).size : Int)) (h0 : 0 < (bs l).size) (h48 : ((((bs l)[0]'h0).toNat : Int) == 48) = false) :
    Calls Tryz.prog 136 #[.string (bs l)] w (Ans w (numR (numF 0 l))) := by
  obtain ⟨v0, hv0⟩ : ∃ v0, numR (numF 0 l) = v0 := ⟨_, rfl⟩
  have HV := Lib.hid hv0
  rw [hv0]
  clear hv0
  have h1' : ((bs l).size : Int) > 1 := h1
  go_enter Tryz.func136, Tryz.ntmps136
  go_wp2
  go_loopw [4] (NumRel w l) (fun v wr => l.length - wr.iterPos w.heap.size)
  case atStart => exact ⟨0, 0, by omega, Nat.zero_le _, rfl, (by have := World.iter_heap w (bs l) 0; simpa using this), (Below.refl _ _).alloc (Nat.le_refl _) _, rfl⟩
  case round =>
    obtain ⟨pos, n, hn, hpos, rfl, hs⟩ := hrel
    have HS := Lib.hid hs
    have hit := hs.it
    have HT := Lib.hid hit
    have hlt := (Array.getElem?_eq_some_iff.1 hit).1
    by_cases hp : pos < l.length
    · have hnx : ∀ ty, (Instr.next (.pointer (some ⟨w.heap.size, 0, none⟩)) true ty).run Tryz.prog wr = _ := fun ty => Lib.run_next_any_at wr w.heap.size (bs l) pos ty hit (by rw [bs_size]; exact hp)
      by_cases hr : 48 ≤ (Utf8.decode (bs l) pos).1 ∧ (Utf8.decode (bs l) pos).1 ≤ 57
      · have hdg := digit hp hr
        have HN : Hid (numF 0 l = numF (min (10 * n + ((Utf8.decode (bs l) pos).1 - 48)) 256) (l.drop (pos + 1))) := by
          unfold Hid; rw [hs.num, drop_at hp, numF]
          rw [hdg] at hr ⊢
          rw [if_pos hr]
        have hwd : (Utf8.decode (bs l) pos).2 = 1 := by rw [hdg]
        have HB := Lib.hid (Lib.below_iterAt hs.bel (k := w.heap.size) (Nat.le_refl _) (bs l) (pos + 1))
        have HI := Lib.hid (Lib.iterAt_heap wr w.heap.size (bs l) pos (pos + 1) hit)
        obtain ⟨r, hrr⟩ : ∃ r, (Utf8.decode (bs l) pos).1 = r := ⟨_, rfl⟩
        rw [hrr] at hr HN
        rw [hrr, hwd] at hnx
        clear hdg hwd hrr hs hit HS
        obtain ⟨r1, r2⟩ := hr
        have r3 : ¬ ((r : Int) < 48) := by omega
        have r4 : ¬ ((r : Int) > 57) := by omega
        have r5 : (0 : Int) ≤ (r : Int) - 48 := by omega
        have r6 : (r : Int) - 48 ≤ 9 := by omega
        have r7 : (0 : Int) ≤ 10 * (n : Int) := by omega
        have r8 : 10 * (n : Int) ≤ 2560 := by omega
        go_wp2
        go_roundw
        case rel => exact ⟨pos + 1, min (10 * n + (r - 48)) 256, by omega, by omega, by congr 1; omega, HI.out, HB.out, HN.out⟩
        case measure => simp only [World.iterPos, HI.out, HT.out]; omega
      · have HN := Lib.hid (nodigit hp hr n)
        have HNN : Hid (numF 0 l = none) := by unfold Hid; rw [hs.num, HN.out]
        have HR : Hid (v0 = .tuple #[.int .i64 0, .bool false]) := by unfold Hid; rw [← HV.out, HNN.out]; rfl
        have HB := Lib.hid (Lib.below_iterAt hs.bel (k := w.heap.size) (Nat.le_refl _) (bs l) (pos + (Utf8.decode (bs l) pos).2))
        have hbig : (Utf8.decode (bs l) pos).1 < 2147483648 := by
          rcases Nat.lt_or_ge (l.getD pos 0).toNat 128 with hb | hb
          · rw [dec_small l pos hb]; show (l.getD pos 0).toNat < _; omega
          · exact (dec_big l pos hp hb).2.1
        generalize pos + (Utf8.decode (bs l) pos).2 = q at *
        generalize (Utf8.decode (bs l) pos).1 = r at *
        clear hs hit HS HN HNN
        by_cases h48 : r < 48
        · have r3 : ((r : Int) < 48) := by omega
          go_wp2
          go_ret2
          exact ⟨by rw [HR.out]; rfl, HB.out⟩
        · have r3 : ¬ ((r : Int) < 48) := by omega
          have r4 : ((r : Int) > 57) := by omega
          have r4' : ((57 : Int) < (r : Int)) := by omega
          go_wp2
          go_ret2
          exact ⟨by rw [HR.out]; rfl, HB.out⟩
    · have hnx : ∀ ty, (Instr.next (.pointer (some ⟨w.heap.size, 0, none⟩)) true ty).run Tryz.prog wr = _ := fun ty => Lib.run_next_end_at wr w.heap.size (bs l) pos ty hit (by rw [bs_size]; exact hp)
      have HN : Hid (v0 = .tuple #[.int .i64 (n : Int), .bool true]) := by unfold Hid; rw [← HV.out, hs.num, List.drop_of_length_le (by omega), numF]; rfl
      clear hs hit
      go_wp2
      go_ret2
      exact ⟨by rw [HN.out]; rfl, HS.out.bel⟩
set_option maxHeartbeats 4000000 in
set_option maxRecDepth 100000 in
theorem num_zero (s : ByteArray) (w : World) (hne : s.toList.isEmpty = false) (h1 : (1 : Int) < (s.size : Int)) (h0 : 0 < s.size) (h48 : (((s[0]'h0).toNat : Int) == 48) = true) :
    Calls Tryz.prog 136 #[.string s] w (Ans w (.tuple #[.int .i64 0, .bool false])) := by
  go_enter Tryz.func136, Tryz.ntmps136
  go_wp2
  go_ret2
  exact ⟨rfl, Below.refl _ _⟩
theorem num_empty (w : World) : Calls Tryz.prog 136 #[.string ⟨#[]⟩] w (Ans w (.tuple #[.int .i64 0, .bool false])) := by
  go_enter Tryz.func136, Tryz.ntmps136
  go_wp2
  go_ret2
  exact ⟨rfl, Below.refl _ _⟩
theorem num_any (l : List UInt8) (w : World) : Calls Tryz.prog 136 #[.string (bs l)] w (Ans w (numR (numV l))) := by
  match l with
  | [] => exact num_empty w
  | [a] =>
    have e : numV [a] = numF 0 [a] := by unfold numV; rw [if_neg (by simp)]
    rw [e]
    exact num_short [a] w (by rw [Lib.toList_data, bs_data]; rfl) (by rw [bs_size]; simp)
  | a :: b :: l =>
    have hs : (bs (a :: b :: l)).size = l.length + 2 := by rw [bs_size]; simp
    by_cases h : a = 48
    · have e : numV (a :: b :: l) = none := by unfold numV; rw [if_pos (by simp [h])]
      rw [e]
      exact num_zero _ w (by rw [Lib.toList_data, bs_data]; rfl) (by rw [hs]; omega) (by rw [hs]; omega) (by rw [bs_get]; simp [h])
    · have e : numV (a :: b :: l) = numF 0 (a :: b :: l) := by unfold numV; rw [if_neg (by simp [h])]
      rw [e]
      exact num_long _ w (by rw [Lib.toList_data, bs_data]; rfl) (by rw [hs]; omega) (by rw [hs]; omega) (by
        rw [bs_get, beq_eq_false_iff_ne]
        intro e2
        apply h
        simp at e2
        apply UInt8.toNat_inj.1
        show a.toNat = 48
        omega)
def tokC (t : Tok) : Array Value := #[.int .i64 (t.kind : Int), .int .i64 (t.at_ : Int), .int .u64 (wd t.cls 0), .int .u64 (wd t.cls 1), .int .u64 (wd t.cls 2), .int .u64 (wd t.cls 3), .string (bs t.text), .int .i64 (t.lo : Int), .int .i64 (t.hi : Int)]
def z9 : Array Value := #[.int .i64 0, .int .i64 0, .int .u64 0, .int .u64 0, .int .u64 0, .int .u64 0, .string ⟨#[]⟩, .int .i64 0, .int .i64 0]
def tokR (o : Option Tok) : Value := match o with
  | some t => .tuple #[.agg (tokC t), .bool true]
  | none => .tuple #[.agg z9, .bool false]
theorem Blk.put {w : World} {b : Nat} {t : TypeId} {vs : Array Value} (h : Blk w b vs t) {o : Nat} (ho : o < vs.size) (v : Value) : (w.setCell ⟨b, o, none⟩ v).cell? ⟨b, o, none⟩ = some v := by
  rw [(h.setCell o v).cell o]; simp [ho]
section
variable {w : World} {b : Nat} {t : TypeId} {c0 c1 c2 c3 c4 c5 c6 c7 c8 : Value}
theorem nine (h : Blk w b #[c0, c1, c2, c3, c4, c5, c6, c7, c8] t) :
    (∀ v0 : Value, (w.setCell ⟨b, 0, none⟩ v0).cell? ⟨b, 0, none⟩ = some v0) ∧ (∀ v0 v1 : Value, ((w.setCell ⟨b, 0, none⟩ v0).setCell ⟨b, 1, none⟩ v1).cell? ⟨b, 1, none⟩ = some v1) ∧ (∀ v0 v1 v2 : Value, (((w.setCell ⟨b, 0, none⟩ v0).setCell ⟨b, 1, none⟩ v1).setCell ⟨b, 2, none⟩ v2).cell? ⟨b, 2, none⟩ = some v2) ∧ (∀ v0 v1 v2 v3 : Value, ((((w.setCell ⟨b, 0, none⟩ v0).setCell ⟨b, 1, none⟩ v1).setCell ⟨b, 2, none⟩ v2).setCell ⟨b, 3, none⟩ v3).cell? ⟨b, 3, none⟩ = some v3) ∧ (∀ v0 v1 v2 v3 v4 : Value, (((((w.setCell ⟨b, 0, none⟩ v0).setCell ⟨b, 1, none⟩ v1).setCell ⟨b, 2, none⟩ v2).setCell ⟨b, 3, none⟩ v3).setCell ⟨b, 4, none⟩ v4).cell? ⟨b, 4, none⟩ = some v4) ∧ (∀ v0 v1 v2 v3 v4 v5 : Value, ((((((w.setCell ⟨b, 0, none⟩ v0).setCell ⟨b, 1, none⟩ v1).setCell ⟨b, 2, none⟩ v2).setCell ⟨b, 3, none⟩ v3).setCell ⟨b, 4, none⟩ v4).setCell ⟨b, 5, none⟩ v5).cell? ⟨b, 5, none⟩ = some v5) ∧ (∀ v0 v1 v2 v3 v4 v5 v6 : Value, (((((((w.setCell ⟨b, 0, none⟩ v0).setCell ⟨b, 1, none⟩ v1).setCell ⟨b, 2, none⟩ v2).setCell ⟨b, 3, none⟩ v3).setCell ⟨b, 4, none⟩ v4).setCell ⟨b, 5, none⟩ v5).setCell ⟨b, 6, none⟩ v6).cell? ⟨b, 6, none⟩ = some v6) ∧ (∀ v0 v1 v2 v3 v4 v5 v6 v7 : Value, ((((((((w.setCell ⟨b, 0, none⟩ v0).setCell ⟨b, 1, none⟩ v1).setCell ⟨b, 2, none⟩ v2).setCell ⟨b, 3, none⟩ v3).setCell ⟨b, 4, none⟩ v4).setCell ⟨b, 5, none⟩ v5).setCell ⟨b, 6, none⟩ v6).setCell ⟨b, 7, none⟩ v7).cell? ⟨b, 7, none⟩ = some v7) ∧ (∀ v0 v1 v2 v3 v4 v5 v6 v7 v8 : Value, (((((((((w.setCell ⟨b, 0, none⟩ v0).setCell ⟨b, 1, none⟩ v1).setCell ⟨b, 2, none⟩ v2).setCell ⟨b, 3, none⟩ v3).setCell ⟨b, 4, none⟩ v4).setCell ⟨b, 5, none⟩ v5).setCell ⟨b, 6, none⟩ v6).setCell ⟨b, 7, none⟩ v7).setCell ⟨b, 8, none⟩ v8).cell? ⟨b, 8, none⟩ = some v8) :=
  ⟨fun v0 => h.put (by simp) v0, fun v0 v1 => (h.setCell 0 v0).put (by simp) v1, fun v0 v1 v2 => ((h.setCell 0 v0).setCell 1 v1).put (by simp) v2, fun v0 v1 v2 v3 => (((h.setCell 0 v0).setCell 1 v1).setCell 2 v2).put (by simp) v3, fun v0 v1 v2 v3 v4 => ((((h.setCell 0 v0).setCell 1 v1).setCell 2 v2).setCell 3 v3).put (by simp) v4, fun v0 v1 v2 v3 v4 v5 => (((((h.setCell 0 v0).setCell 1 v1).setCell 2 v2).setCell 3 v3).setCell 4 v4).put (by simp) v5, fun v0 v1 v2 v3 v4 v5 v6 => ((((((h.setCell 0 v0).setCell 1 v1).setCell 2 v2).setCell 3 v3).setCell 4 v4).setCell 5 v5).put (by simp) v6, fun v0 v1 v2 v3 v4 v5 v6 v7 => (((((((h.setCell 0 v0).setCell 1 v1).setCell 2 v2).setCell 3 v3).setCell 4 v4).setCell 5 v5).setCell 6 v6).put (by simp) v7, fun v0 v1 v2 v3 v4 v5 v6 v7 v8 => ((((((((h.setCell 0 v0).setCell 1 v1).setCell 2 v2).setCell 3 v3).setCell 4 v4).setCell 5 v5).setCell 6 v6).setCell 7 v7).put (by simp) v8⟩
theorem nine_cells (h : Blk w b #[c0, c1, c2, c3, c4, c5, c6, c7, c8] t) :
    w.cell? ⟨b, 0, none⟩ = some c0 ∧ w.cell? ⟨b, 1, none⟩ = some c1 ∧ w.cell? ⟨b, 2, none⟩ = some c2 ∧ w.cell? ⟨b, 3, none⟩ = some c3 ∧ w.cell? ⟨b, 4, none⟩ = some c4 ∧ w.cell? ⟨b, 5, none⟩ = some c5 ∧ w.cell? ⟨b, 6, none⟩ = some c6 ∧ w.cell? ⟨b, 7, none⟩ = some c7 ∧ w.cell? ⟨b, 8, none⟩ = some c8 :=
  ⟨h.cell 0, h.cell 1, h.cell 2, h.cell 3, h.cell 4, h.cell 5, h.cell 6, h.cell 7, h.cell 8⟩
theorem nine_blk (h : Blk w b #[c0, c1, c2, c3, c4, c5, c6, c7, c8] t) (v0 v1 v2 v3 v4 v5 v6 v7 v8 : Value) : Blk (((((((((w.setCell ⟨b, 0, none⟩ v0).setCell ⟨b, 1, none⟩ v1).setCell ⟨b, 2, none⟩ v2).setCell ⟨b, 3, none⟩ v3).setCell ⟨b, 4, none⟩ v4).setCell ⟨b, 5, none⟩ v5).setCell ⟨b, 6, none⟩ v6).setCell ⟨b, 7, none⟩ v7).setCell ⟨b, 8, none⟩ v8) b #[v0, v1, v2, v3, v4, v5, v6, v7, v8] t := by
  have h1 : Blk (w.setCell ⟨b, 0, none⟩ v0) b #[v0, c1, c2, c3, c4, c5, c6, c7, c8] t := h.setCell 0 v0
  have h2 : Blk ((w.setCell ⟨b, 0, none⟩ v0).setCell ⟨b, 1, none⟩ v1) b #[v0, v1, c2, c3, c4, c5, c6, c7, c8] t := h1.setCell 1 v1
  have h3 : Blk (((w.setCell ⟨b, 0, none⟩ v0).setCell ⟨b, 1, none⟩ v1).setCell ⟨b, 2, none⟩ v2) b #[v0, v1, v2, c3, c4, c5, c6, c7, c8] t := h2.setCell 2 v2
  have h4 : Blk ((((w.setCell ⟨b, 0, none⟩ v0).setCell ⟨b, 1, none⟩ v1).setCell ⟨b, 2, none⟩ v2).setCell ⟨b, 3, none⟩ v3) b #[v0, v1, v2, v3, c4, c5, c6, c7, c8] t := h3.setCell 3 v3
  have h5 : Blk (((((w.setCell ⟨b, 0, none⟩ v0).setCell ⟨b, 1, none⟩ v1).setCell ⟨b, 2, none⟩ v2).setCell ⟨b, 3, none⟩ v3).setCell ⟨b, 4, none⟩ v4) b #[v0, v1, v2, v3, v4, c5, c6, c7, c8] t := h4.setCell 4 v4
  have h6 : Blk ((((((w.setCell ⟨b, 0, none⟩ v0).setCell ⟨b, 1, none⟩ v1).setCell ⟨b, 2, none⟩ v2).setCell ⟨b, 3, none⟩ v3).setCell ⟨b, 4, none⟩ v4).setCell ⟨b, 5, none⟩ v5) b #[v0, v1, v2, v3, v4, v5, c6, c7, c8] t := h5.setCell 5 v5
  have h7 : Blk (((((((w.setCell ⟨b, 0, none⟩ v0).setCell ⟨b, 1, none⟩ v1).setCell ⟨b, 2, none⟩ v2).setCell ⟨b, 3, none⟩ v3).setCell ⟨b, 4, none⟩ v4).setCell ⟨b, 5, none⟩ v5).setCell ⟨b, 6, none⟩ v6) b #[v0, v1, v2, v3, v4, v5, v6, c7, c8] t := h6.setCell 6 v6
  have h8 : Blk ((((((((w.setCell ⟨b, 0, none⟩ v0).setCell ⟨b, 1, none⟩ v1).setCell ⟨b, 2, none⟩ v2).setCell ⟨b, 3, none⟩ v3).setCell ⟨b, 4, none⟩ v4).setCell ⟨b, 5, none⟩ v5).setCell ⟨b, 6, none⟩ v6).setCell ⟨b, 7, none⟩ v7) b #[v0, v1, v2, v3, v4, v5, v6, v7, c8] t := h7.setCell 7 v7
  have h9 : Blk (((((((((w.setCell ⟨b, 0, none⟩ v0).setCell ⟨b, 1, none⟩ v1).setCell ⟨b, 2, none⟩ v2).setCell ⟨b, 3, none⟩ v3).setCell ⟨b, 4, none⟩ v4).setCell ⟨b, 5, none⟩ v5).setCell ⟨b, 6, none⟩ v6).setCell ⟨b, 7, none⟩ v7).setCell ⟨b, 8, none⟩ v8) b #[v0, v1, v2, v3, v4, v5, v6, v7, v8] t := h8.setCell 8 v8
  exact h9
end
theorem below9 {B : Nat} {a w : World} (h : Below B a w) {b : Nat} (hb : B ≤ b) (v0 v1 v2 v3 v4 v5 v6 v7 v8 : Value) : Below B a (((((((((w.setCell ⟨b, 0, none⟩ v0).setCell ⟨b, 1, none⟩ v1).setCell ⟨b, 2, none⟩ v2).setCell ⟨b, 3, none⟩ v3).setCell ⟨b, 4, none⟩ v4).setCell ⟨b, 5, none⟩ v5).setCell ⟨b, 6, none⟩ v6).setCell ⟨b, 7, none⟩ v7).setCell ⟨b, 8, none⟩ v8) := (((((((((h.setCell (p := ⟨b, 0, none⟩) hb v0).setCell (p := ⟨b, 1, none⟩) hb v1).setCell (p := ⟨b, 2, none⟩) hb v2).setCell (p := ⟨b, 3, none⟩) hb v3).setCell (p := ⟨b, 4, none⟩) hb v4).setCell (p := ⟨b, 5, none⟩) hb v5).setCell (p := ⟨b, 6, none⟩) hb v6).setCell (p := ⟨b, 7, none⟩) hb v7).setCell (p := ⟨b, 8, none⟩) hb v8)
structure Box9 (w : World) (w' : World) : Prop where
  bel : Below w.heap.size w w'
  blk : Blk w' w.heap.size z9 76
theorem Box9.new (w : World) : Box9 w (w.alloc (.cells #[.int .i64 0, .int .i64 0, .int .u64 0, .int .u64 0, .int .u64 0, .int .u64 0, .string ⟨#[]⟩, .int .i64 0, .int .i64 0] 76)) := ⟨(Below.refl _ _).alloc (Nat.le_refl _) _, Blk.new _ _ _⟩
theorem Box9.later {w w1 w2 : World} (h : Box9 w w1) (hb : Below w1.heap.size w1 w2) : Box9 w w2 := ⟨h.bel.trans (hb.mono h.bel.size), h.blk.later hb⟩
theorem tok_simple (t : Tok) (hc : t.cls = 0#256) : tokR (some t) = .tuple #[.agg #[.int .i64 (t.kind : Int), .int .i64 (t.at_ : Int), .int .u64 0, .int .u64 0, .int .u64 0, .int .u64 0, .string (bs t.text), .int .i64 (t.lo : Int), .int .i64 (t.hi : Int)], .bool true] := by
  have z0 : wd 0#256 0 = 0 := by decide
  have z1 : wd 0#256 1 = 0 := by decide
  have z2 : wd 0#256 2 = 0 := by decide
  have z3 : wd 0#256 3 = 0 := by decide
  unfold tokR tokC
  simp only [hc, z0, z1, z2, z3]; rfl
def clsTok (s : BitVec 256) : Tok := { kind := 1, at_ := 0, cls := s }
theorem numR_some {o : Option Nat} {n : Nat} (h : o = some n) : numR o = .tuple #[.int .i64 (n : Int), .bool true] := by rw [h]; rfl
theorem numR_none {o : Option Nat} (h : o = none) : numR o = .tuple #[.int .i64 0, .bool false] := by rw [h]; rfl
def repTok (p : Nat × Nat) : Tok := { kind := 7, at_ := 0, lo := p.1, hi := p.2 }
set_option maxHeartbeats 4000000 in
set_option maxRecDepth 100000 in
theorem reptok_any (l : List UInt8) (w : World) (hl : l.length ≤ 1073741824) : Calls Tryz.prog 114 #[.string (bs l)] w (Ans w (tokR ((repV l).map repTok))) := by
  have hsz : (bs l).size ≤ 4294967296 := by rw [bs_size]; omega
  cases hc : cutAt 44 l with
  | none =>
    have HC : Hid (cutAt 44 (bs l).data.toList = none) := hc
    have HV : Hid (tokR ((repV l).map repTok) = .tuple #[.agg z9, .bool false]) := by unfold Hid repV; rw [hc]; rfl
    clear hc
    generalize tokR ((repV l).map repTok) = v at *
    have HE := Lib.hid (numR_none (o := numV []) rfl)
    go_enter Tryz.func114, Tryz.ntmps114
    go_wp2_with fail
    refine (cut_miss _ _ _ HC.out).mono ?_; rintro e w2 ⟨rfl, hb2⟩
    have HX := Lib.hid ((Box9.new w).later hb2)
    clear hb2
    cases ho : numV l with
    | none =>
      have HN := Lib.hid (numR_none ho)
      clear ho
      go_wp2_with fail
      refine (num_any l _).mono ?_; rintro e wn ⟨rfl, hbn⟩
      rw [HN.out]
      have HX2 := Lib.hid (HX.out.later hbn)
      clear hbn
      go_wp2_with fail
      refine (num_any [] _).mono ?_; rintro e wn ⟨rfl, hbn⟩
      rw [HE.out]
      have HX3 := Lib.hid (HX2.out.later hbn)
      clear hbn
      have hk := HX3.out.blk
      unfold z9 at hk
      have ef := hk.frozen
      obtain ⟨e0, e1, e2, e3, e4, e5, e6, e7, e8⟩ := nine_cells hk
      obtain ⟨s0, s1, s2, s3, s4, s5, s6, s7, s8⟩ := nine hk
      clear hk
      go_wp2
      exact bodyPost_ret (v := .tuple #[.agg #[.int .i64 0, .int .i64 0, .int .u64 0, .int .u64 0, .int .u64 0, .int .u64 0, .string ⟨#[]⟩, .int .i64 0, .int .i64 0], .bool false]) (by simp [results, Tryz.results114, go_sem, s0, s1, s2, s3, s4, s5, s6, s7, s8]) rfl ⟨by rw [HV.out]; rfl, below9 HX3.out.bel (Nat.le_refl _) _ _ _ _ _ _ _ _ _⟩
    | some x =>
      have HN := Lib.hid (numR_some ho)
      clear ho
      go_wp2_with fail
      refine (num_any l _).mono ?_; rintro e wn ⟨rfl, hbn⟩
      rw [HN.out]
      have HX2 := Lib.hid (HX.out.later hbn)
      clear hbn
      go_wp2_with fail
      refine (num_any [] _).mono ?_; rintro e wn ⟨rfl, hbn⟩
      rw [HE.out]
      have HX3 := Lib.hid (HX2.out.later hbn)
      clear hbn
      have hk := HX3.out.blk
      unfold z9 at hk
      have ef := hk.frozen
      obtain ⟨e0, e1, e2, e3, e4, e5, e6, e7, e8⟩ := nine_cells hk
      obtain ⟨s0, s1, s2, s3, s4, s5, s6, s7, s8⟩ := nine hk
      clear hk
      go_wp2
      exact bodyPost_ret (v := .tuple #[.agg #[.int .i64 0, .int .i64 0, .int .u64 0, .int .u64 0, .int .u64 0, .int .u64 0, .string ⟨#[]⟩, .int .i64 0, .int .i64 0], .bool false]) (by simp [results, Tryz.results114, go_sem, s0, s1, s2, s3, s4, s5, s6, s7, s8]) rfl ⟨by rw [HV.out]; rfl, below9 HX3.out.bel (Nat.le_refl _) _ _ _ _ _ _ _ _ _⟩
  | some p =>
    obtain ⟨a, b⟩ := p
    have HC : Hid (cutAt 44 (bs l).data.toList = some (a, b)) := hc
    have hrv : repV l = match numV a, numV b with
      | some x, some y => some (x, y)
      | _, _ => none := by unfold repV; rw [hc]; rfl
    have HRV := Lib.hid hrv
    clear hc hrv
    go_enter Tryz.func114, Tryz.ntmps114
    go_wp2_with fail
    refine (cut_hit _ _ _ _ _ HC.out hsz).mono ?_; rintro e w2 ⟨rfl, hb2⟩
    have HX := Lib.hid ((Box9.new w).later hb2)
    clear hb2
    cases ho : numV a with
    | none =>
      have HN := Lib.hid (numR_none ho)
      have HV : Hid (tokR ((repV l).map repTok) = .tuple #[.agg z9, .bool false]) := by unfold Hid; rw [HRV.out, ho]; rfl
      clear ho HRV
      generalize tokR ((repV l).map repTok) = v at *
      go_wp2_with fail
      refine (num_any a _).mono ?_; rintro e wn ⟨rfl, hbn⟩
      rw [HN.out]
      have HX2 := Lib.hid (HX.out.later hbn)
      clear hbn
      cases ho : numV b with
      | none =>
        have HM := Lib.hid (numR_none ho)
        clear ho
        go_wp2_with fail
        refine (num_any b _).mono ?_; rintro e wn ⟨rfl, hbn⟩
        rw [HM.out]
        have HX3 := Lib.hid (HX2.out.later hbn)
        clear hbn
        have hk := HX3.out.blk
        unfold z9 at hk
        have ef := hk.frozen
        obtain ⟨e0, e1, e2, e3, e4, e5, e6, e7, e8⟩ := nine_cells hk
        obtain ⟨s0, s1, s2, s3, s4, s5, s6, s7, s8⟩ := nine hk
        clear hk
        go_wp2
        exact bodyPost_ret (v := .tuple #[.agg #[.int .i64 0, .int .i64 0, .int .u64 0, .int .u64 0, .int .u64 0, .int .u64 0, .string ⟨#[]⟩, .int .i64 0, .int .i64 0], .bool false]) (by simp [results, Tryz.results114, go_sem, s0, s1, s2, s3, s4, s5, s6, s7, s8]) rfl ⟨by rw [HV.out]; rfl, below9 HX3.out.bel (Nat.le_refl _) _ _ _ _ _ _ _ _ _⟩
      | some y =>
        have HM := Lib.hid (numR_some ho)
        clear ho
        go_wp2_with fail
        refine (num_any b _).mono ?_; rintro e wn ⟨rfl, hbn⟩
        rw [HM.out]
        have HX3 := Lib.hid (HX2.out.later hbn)
        clear hbn
        have hk := HX3.out.blk
        unfold z9 at hk
        have ef := hk.frozen
        obtain ⟨e0, e1, e2, e3, e4, e5, e6, e7, e8⟩ := nine_cells hk
        obtain ⟨s0, s1, s2, s3, s4, s5, s6, s7, s8⟩ := nine hk
        clear hk
        go_wp2
        exact bodyPost_ret (v := .tuple #[.agg #[.int .i64 0, .int .i64 0, .int .u64 0, .int .u64 0, .int .u64 0, .int .u64 0, .string ⟨#[]⟩, .int .i64 0, .int .i64 0], .bool false]) (by simp [results, Tryz.results114, go_sem, s0, s1, s2, s3, s4, s5, s6, s7, s8]) rfl ⟨by rw [HV.out]; rfl, below9 HX3.out.bel (Nat.le_refl _) _ _ _ _ _ _ _ _ _⟩
    | some x =>
      have HN := Lib.hid (numR_some ho)
      cases ho2 : numV b with
      | none =>
        have HM := Lib.hid (numR_none ho2)
        have HV : Hid (tokR ((repV l).map repTok) = .tuple #[.agg z9, .bool false]) := by unfold Hid; rw [HRV.out, ho, ho2]; rfl
        clear ho ho2 HRV
        generalize tokR ((repV l).map repTok) = v at *
        go_wp2_with fail
        refine (num_any a _).mono ?_; rintro e wn ⟨rfl, hbn⟩
        rw [HN.out]
        have HX2 := Lib.hid (HX.out.later hbn)
        clear hbn
        go_wp2_with fail
        refine (num_any b _).mono ?_; rintro e wn ⟨rfl, hbn⟩
        rw [HM.out]
        have HX3 := Lib.hid (HX2.out.later hbn)
        clear hbn
        have hk := HX3.out.blk
        unfold z9 at hk
        have ef := hk.frozen
        obtain ⟨e0, e1, e2, e3, e4, e5, e6, e7, e8⟩ := nine_cells hk
        obtain ⟨s0, s1, s2, s3, s4, s5, s6, s7, s8⟩ := nine hk
        clear hk
        go_wp2
        exact bodyPost_ret (v := .tuple #[.agg #[.int .i64 0, .int .i64 0, .int .u64 0, .int .u64 0, .int .u64 0, .int .u64 0, .string ⟨#[]⟩, .int .i64 0, .int .i64 0], .bool false]) (by simp [results, Tryz.results114, go_sem, s0, s1, s2, s3, s4, s5, s6, s7, s8]) rfl ⟨by rw [HV.out]; rfl, below9 HX3.out.bel (Nat.le_refl _) _ _ _ _ _ _ _ _ _⟩
      | some y =>
        have HM := Lib.hid (numR_some ho2)
        have HV : Hid (tokR ((repV l).map repTok) = .tuple #[.agg #[.int .i64 7, .int .i64 0, .int .u64 0, .int .u64 0, .int .u64 0, .int .u64 0, .string ⟨#[]⟩, .int .i64 (x : Int), .int .i64 (y : Int)], .bool true]) := by unfold Hid; rw [HRV.out, ho, ho2]; exact tok_simple _ rfl
        clear ho ho2 HRV
        generalize tokR ((repV l).map repTok) = v at *
        go_wp2_with fail
        refine (num_any a _).mono ?_; rintro e wn ⟨rfl, hbn⟩
        rw [HN.out]
        have HX2 := Lib.hid (HX.out.later hbn)
        clear hbn
        go_wp2_with fail
        refine (num_any b _).mono ?_; rintro e wn ⟨rfl, hbn⟩
        rw [HM.out]
        have HX3 := Lib.hid (HX2.out.later hbn)
        clear hbn
        have hk := HX3.out.blk
        unfold z9 at hk
        have ef := hk.frozen
        obtain ⟨e0, e1, e2, e3, e4, e5, e6, e7, e8⟩ := nine_cells hk
        obtain ⟨s0, s1, s2, s3, s4, s5, s6, s7, s8⟩ := nine hk
        clear hk
        go_wp2
        exact bodyPost_ret (v := .tuple #[.agg #[.int .i64 7, .int .i64 0, .int .u64 0, .int .u64 0, .int .u64 0, .int .u64 0, .string ⟨#[]⟩, .int .i64 (x : Int), .int .i64 (y : Int)], .bool true]) (by simp [results, Tryz.results114, go_sem, s0, s1, s2, s3, s4, s5, s6, s7, s8]) rfl ⟨by rw [HV.out], below9 HX3.out.bel (Nat.le_refl _) _ _ _ _ _ _ _ _ _⟩
def txtTok (t : List UInt8) : Tok := { kind := 2, at_ := 0, text := t }
set_option maxHeartbeats 4000000 in
set_option maxRecDepth 100000 in
theorem txttok_empty (w : World) : Calls Tryz.prog 113 #[.string ⟨#[]⟩] w (Ans w (.tuple #[.agg z9, .bool false])) := by
  obtain ⟨v, hv⟩ : ∃ v, v = Value.tuple #[.agg z9, .bool false] := ⟨_, rfl⟩
  have HV := Lib.hid hv
  rw [← hv]
  clear hv
  go_enter Tryz.func113, Tryz.ntmps113
  go_wp2
  exact bodyPost_ret (v := .tuple #[.agg #[.int .i64 0, .int .i64 0, .int .u64 0, .int .u64 0, .int .u64 0, .int .u64 0, .string ⟨#[]⟩, .int .i64 0, .int .i64 0], .bool false]) (by simp [results, Tryz.results113, go_sem]) rfl ⟨by rw [HV.out]; rfl, by go_grown⟩
set_option maxHeartbeats 4000000 in
set_option maxRecDepth 100000 in
theorem txttok_any (l : List UInt8) (w : World) (hl : l.length ≤ 1073741824) (hT : U8T w) : Calls Tryz.prog 113 #[.string (bs l)] w (Ans w (tokR ((textV l).map txtTok))) := by
  have hs63 : (bs l).size ≤ 9223372036854775807 := by rw [bs_size]; omega
  have hs48 : (bs l).size ≤ 281474976710656 := by rw [bs_size]; omega
  have HT := Lib.hid (hT.later (Box9.new w).bel)
  clear hT
  by_cases h0 : l = []
  · subst h0
    have hv : tokR ((textV []).map txtTok) = .tuple #[.agg z9, .bool false] := by unfold textV; rw [if_pos (.inl rfl)]; rfl
    rw [hv]
    exact txttok_empty w
  · have hne : (bs l).toList.isEmpty = false := by
      rw [Lib.toList_data, bs_data]; cases l with
      | nil => exact absurd rfl h0
      | cons a l => rfl
    cases hu : utf8L l with
    | false =>
      have HV : Hid (tokR ((textV l).map txtTok) = .tuple #[.agg z9, .bool false]) := by unfold Hid textV; rw [if_pos (.inr hu)]; rfl
      have HU : Hid (utf8L (bs l).data.toList = false) := hu
      clear hu h0
      generalize tokR ((textV l).map txtTok) = v at *
      go_enter Tryz.func113, Tryz.ntmps113
      go_wp2_with fail
      refine (utf8_any (bs l) _ hs63 HT.out).mono ?_; rintro e w2 ⟨rfl, hb2⟩
      rw [HU.out]
      have HX := Lib.hid ((Box9.new w).later hb2)
      clear hb2
      have hk := HX.out.blk
      unfold z9 at hk
      have ef := hk.frozen
      obtain ⟨e0, e1, e2, e3, e4, e5, e6, e7, e8⟩ := nine_cells hk
      obtain ⟨s0, s1, s2, s3, s4, s5, s6, s7, s8⟩ := nine hk
      clear hk
      go_wp2
      exact bodyPost_ret (v := .tuple #[.agg #[.int .i64 0, .int .i64 0, .int .u64 0, .int .u64 0, .int .u64 0, .int .u64 0, .string ⟨#[]⟩, .int .i64 0, .int .i64 0], .bool false]) (by simp [results, Tryz.results113, go_sem, s0, s1, s2, s3, s4, s5, s6, s7, s8]) rfl ⟨by rw [HV.out]; rfl, below9 HX.out.bel (Nat.le_refl _) _ _ _ _ _ _ _ _ _⟩
    | true =>
      have HV : Hid (tokR ((textV l).map txtTok) = .tuple #[.agg #[.int .i64 2, .int .i64 0, .int .u64 0, .int .u64 0, .int .u64 0, .int .u64 0, .string (bs l), .int .i64 0, .int .i64 0], .bool true]) := by
        unfold Hid textV; rw [if_neg (by rw [hu]; simp [h0])]; exact tok_simple _ rfl
      have HU : Hid (utf8L (bs l).data.toList = true) := hu
      clear hu h0
      generalize tokR ((textV l).map txtTok) = v at *
      go_enter Tryz.func113, Tryz.ntmps113
      go_wp2_with fail
      refine (utf8_any (bs l) _ hs63 HT.out).mono ?_; rintro e w2 ⟨rfl, hb2⟩
      rw [HU.out]
      have HX2 := Lib.hid ((Box9.new w).later hb2)
      clear hb2
      go_wp2_with fail
      refine (clone_any (bs l) _ hs48).mono ?_; rintro e w3 ⟨rfl, hb3⟩
      have HX3 := Lib.hid (HX2.out.later hb3)
      clear hb3
      have hk := HX3.out.blk
      unfold z9 at hk
      have ef := hk.frozen
      obtain ⟨e0, e1, e2, e3, e4, e5, e6, e7, e8⟩ := nine_cells hk
      obtain ⟨s0, s1, s2, s3, s4, s5, s6, s7, s8⟩ := nine hk
      clear hk
      go_wp2
      exact bodyPost_ret (v := .tuple #[.agg #[.int .i64 2, .int .i64 0, .int .u64 0, .int .u64 0, .int .u64 0, .int .u64 0, .string (bs l), .int .i64 0, .int .i64 0], .bool true]) (by simp [results, Tryz.results113, go_sem, s0, s1, s2, s3, s4, s5, s6, s7, s8]) rfl ⟨by rw [HV.out], below9 HX3.out.bel (Nat.le_refl _) _ _ _ _ _ _ _ _ _⟩
theorem optR_some {o : Option (BitVec 256)} {s : BitVec 256} (h : o = some s) : optR o = .tuple #[cls s, .bool true] := by rw [h]; rfl
theorem optR_none {o : Option (BitVec 256)} (h : o = none) : optR o = .tuple #[cls 0#256, .bool false] := by rw [h]; rfl
theorem clsTok_val (s : BitVec 256) : tokR (some (clsTok s)) = .tuple #[.agg #[.int .i64 1, .int .i64 0, .int .u64 (wd s 0), .int .u64 (wd s 1), .int .u64 (wd s 2), .int .u64 (wd s 3), .string ⟨#[]⟩, .int .i64 0, .int .i64 0], .bool true] := rfl
set_option maxHeartbeats 4000000 in
set_option maxRecDepth 100000 in
theorem clstok_miss (l : List UInt8) (w : World) (hl : l.length ≤ 1073741824) (h94 : l.head? ≠ some 94) : Calls Tryz.prog 112 #[.string (bs l)] w (Ans w (tokR ((listV l).map clsTok))) := by
  have HM := Lib.hid (show (bs l).data.toList.head? ≠ some 94 from h94)
  clear h94
  have hLL := hl
  cases hv : listV l with
  | none =>
    have HO := Lib.hid (optR_none hv)
    have HV : Hid (tokR ((none : Option (BitVec 256)).map clsTok) = .tuple #[.agg z9, .bool false]) := rfl
    clear hv
    generalize tokR ((none : Option (BitVec 256)).map clsTok) = v at *
    go_enter Tryz.func112, Tryz.ntmps112
    go_wp2_with fail
    refine (cutp_miss _ _ _ HM.out).mono ?_; rintro e w2 ⟨rfl, rfl⟩
    go_wp2_with fail
    refine (items_any l _ hLL).mono ?_; rintro e w3 ⟨rfl, hb3⟩
    rw [HO.out]
    rw [cls_zero]
    have HX0 := Lib.hid (((Box9.new w).later hb3).later ((Below.refl _ _).alloc (Nat.le_refl _) (.cells #[.int .u64 0, .int .u64 0, .int .u64 0, .int .u64 0] 42)))
    have hz3 := ((Box9.new w).later hb3).blk.lt
    clear hb3
    go_upto_region 3 with (fail)
    generalize w3.alloc (.cells #[.int .u64 0, .int .u64 0, .int .u64 0, .int .u64 0] 42) = w4 at *
    have hk := HX0.out.blk
    unfold z9 at hk
    have ef := hk.frozen
    obtain ⟨e0, e1, e2, e3, e4, e5, e6, e7, e8⟩ := nine_cells hk
    obtain ⟨s0, s1, s2, s3, s4, s5, s6, s7, s8⟩ := nine hk
    clear hk
    go_wp2
    exact bodyPost_ret (v := .tuple #[.agg #[.int .i64 0, .int .i64 0, .int .u64 0, .int .u64 0, .int .u64 0, .int .u64 0, .string ⟨#[]⟩, .int .i64 0, .int .i64 0], .bool false]) (by simp [results, Tryz.results112, go_sem, s0, s1, s2, s3, s4, s5, s6, s7, s8]) rfl ⟨by rw [HV.out]; rfl, below9 HX0.out.bel (Nat.le_refl _) _ _ _ _ _ _ _ _ _⟩
  | some t =>
    have HO := Lib.hid (optR_some hv)
    have HV := Lib.hid (clsTok_val t)
    clear hv
    show Calls _ _ _ _ (Ans w (tokR (some (clsTok t))))
    generalize tokR (some (clsTok t)) = v at *
    go_enter Tryz.func112, Tryz.ntmps112
    go_wp2_with fail
    refine (cutp_miss _ _ _ HM.out).mono ?_; rintro e w2 ⟨rfl, rfl⟩
    go_wp2_with fail
    refine (items_any l _ hLL).mono ?_; rintro e w3 ⟨rfl, hb3⟩
    rw [HO.out]
    unfold cls
    have HX0 := Lib.hid (((Box9.new w).later hb3).later ((Below.refl _ _).alloc (Nat.le_refl _) (.cells (cells4 t) 42)))
    have HBT := Lib.hid (Blk.new w3 (cells4 t) 42)
    have hz3 := ((Box9.new w).later hb3).blk.lt
    clear hb3
    unfold cells4 at HX0 HBT
    go_upto_region 3 with (fail)
    generalize w3.alloc (.cells #[.int .u64 (wd t 0), .int .u64 (wd t 1), .int .u64 (wd t 2), .int .u64 (wd t 3)] 42) = w4 at *
    generalize w3.heap.size = bt at *
    have ht := HBT.out.cells
    have hk := HX0.out.blk
    unfold z9 at hk
    have ef := hk.frozen
    obtain ⟨e0, e1, e2, e3, e4, e5, e6, e7, e8⟩ := nine_cells hk
    obtain ⟨s0, s1, s2, s3, s4, s5, s6, s7, s8⟩ := nine hk
    clear hk
    go_wp2
    exact bodyPost_ret (v := .tuple #[.agg #[.int .i64 1, .int .i64 0, .int .u64 (wd t 0), .int .u64 (wd t 1), .int .u64 (wd t 2), .int .u64 (wd t 3), .string ⟨#[]⟩, .int .i64 0, .int .i64 0], .bool true]) (by simp [results, Tryz.results112, go_sem, s0, s1, s2, s3, s4, s5, s6, s7, s8]) rfl ⟨by rw [HV.out], below9 HX0.out.bel (Nat.le_refl _) _ _ _ _ _ _ _ _ _⟩
set_option maxHeartbeats 4000000 in
set_option maxRecDepth 100000 in
theorem clstok_hit (l : List UInt8) (w : World) (hl : l.length ≤ 1073741824) : Calls Tryz.prog 112 #[.string (bs (94 :: l))] w (Ans w (tokR (((listV l).map (~~~ ·)).map clsTok))) := by
  have hLL := hl
  cases hv : listV l with
  | none =>
    have HO := Lib.hid (optR_none hv)
    have HV : Hid (tokR (((none : Option (BitVec 256)).map (~~~ ·)).map clsTok) = .tuple #[.agg z9, .bool false]) := rfl
    clear hv
    generalize tokR (((none : Option (BitVec 256)).map (~~~ ·)).map clsTok) = v at *
    go_enter Tryz.func112, Tryz.ntmps112
    go_wp2_with fail
    refine (cutp_hit _ _ _).mono ?_; rintro e w2 ⟨rfl, rfl⟩
    go_wp2_with fail
    refine (items_any l _ hLL).mono ?_; rintro e w3 ⟨rfl, hb3⟩
    rw [HO.out]
    rw [cls_zero]
    have HX0 := Lib.hid (((Box9.new w).later hb3).later ((Below.refl _ _).alloc (Nat.le_refl _) (.cells #[.int .u64 0, .int .u64 0, .int .u64 0, .int .u64 0] 42)))
    have hz3 := ((Box9.new w).later hb3).blk.lt
    clear hb3
    go_upto_region 3 with (fail)
    generalize w3.alloc (.cells #[.int .u64 0, .int .u64 0, .int .u64 0, .int .u64 0] 42) = w4 at *
    have hk := HX0.out.blk
    unfold z9 at hk
    have ef := hk.frozen
    obtain ⟨e0, e1, e2, e3, e4, e5, e6, e7, e8⟩ := nine_cells hk
    obtain ⟨s0, s1, s2, s3, s4, s5, s6, s7, s8⟩ := nine hk
    clear hk
    go_wp2
    exact bodyPost_ret (v := .tuple #[.agg #[.int .i64 0, .int .i64 0, .int .u64 0, .int .u64 0, .int .u64 0, .int .u64 0, .string ⟨#[]⟩, .int .i64 0, .int .i64 0], .bool false]) (by simp [results, Tryz.results112, go_sem, s0, s1, s2, s3, s4, s5, s6, s7, s8]) rfl ⟨by rw [HV.out]; rfl, below9 HX0.out.bel (Nat.le_refl _) _ _ _ _ _ _ _ _ _⟩
  | some t =>
    have HO := Lib.hid (optR_some hv)
    have HV := Lib.hid (clsTok_val (~~~ t))
    clear hv
    show Calls _ _ _ _ (Ans w (tokR (some (clsTok (~~~ t)))))
    generalize tokR (some (clsTok (~~~ t))) = v at *
    go_enter Tryz.func112, Tryz.ntmps112
    go_wp2_with fail
    refine (cutp_hit _ _ _).mono ?_; rintro e w2 ⟨rfl, rfl⟩
    go_wp2_with fail
    refine (items_any l _ hLL).mono ?_; rintro e w3 ⟨rfl, hb3⟩
    rw [HO.out]
    unfold cls
    have HX0 := Lib.hid (((Box9.new w).later hb3).later ((Below.refl _ _).alloc (Nat.le_refl _) (.cells (cells4 t) 42)))
    have HBT := Lib.hid (Blk.new w3 (cells4 t) 42)
    have hz3 := ((Box9.new w).later hb3).blk.lt
    clear hb3
    unfold cells4 at HX0 HBT
    go_upto_region 3 with (fail)
    generalize w3.alloc (.cells #[.int .u64 (wd t 0), .int .u64 (wd t 1), .int .u64 (wd t 2), .int .u64 (wd t 3)] 42) = w4 at *
    generalize w3.heap.size = bt at *
    have ht := HBT.out.cells
    go_wp2_with fail
    refine (not_any t _).mono ?_; rintro e w5 ⟨rfl, hb5⟩
    have hx5 := HX0.out.later hb5
    have HBT5 := HBT.out.later hb5
    clear ht hb5
    have hft := HBT5.frozen
    have ht5 := (show Blk w5 bt (cells4 t) _ from HBT5).cells
    have hnb : w.heap.size < bt := hz3
    have HX6 : Hid (Box9 w ((((w5.setCell ⟨bt, 0, none⟩ (.int .u64 (wd (~~~t) 0))).setCell ⟨bt, 1, none⟩ (.int .u64 (wd (~~~t) 1))).setCell ⟨bt, 2, none⟩ (.int .u64 (wd (~~~t) 2))).setCell ⟨bt, 3, none⟩ (.int .u64 (wd (~~~t) 3)))) :=
      ⟨(((hx5.bel.setCell (p := ⟨bt, 0, none⟩) (Nat.le_of_lt hnb) _).setCell (p := ⟨bt, 1, none⟩) (Nat.le_of_lt hnb) _).setCell (p := ⟨bt, 2, none⟩) (Nat.le_of_lt hnb) _).setCell (p := ⟨bt, 3, none⟩) (Nat.le_of_lt hnb) _,
        (((hx5.blk.setCell_ne (a := ⟨bt, 0, none⟩) (by show bt ≠ _; omega) _).setCell_ne (a := ⟨bt, 1, none⟩) (by show bt ≠ _; omega) _).setCell_ne (a := ⟨bt, 2, none⟩) (by show bt ≠ _; omega) _).setCell_ne (a := ⟨bt, 3, none⟩) (by show bt ≠ _; omega) _⟩
    have HB6 := Lib.hid ((show Blk w5 bt (cells4 t) _ from HBT5).set4 (~~~ t))
    clear hx5 HBT5
    unfold cls
    go_upto_region 7 with (fail)
    generalize ((((w5.setCell ⟨bt, 0, none⟩ (.int .u64 (wd (~~~t) 0))).setCell ⟨bt, 1, none⟩ (.int .u64 (wd (~~~t) 1))).setCell ⟨bt, 2, none⟩ (.int .u64 (wd (~~~t) 2))).setCell ⟨bt, 3, none⟩ (.int .u64 (wd (~~~t) 3))) = w6 at *
    clear ht5 hft
    generalize ~~~ t = t' at *
    have ht := HB6.out.cells
    have hk := HX6.out.blk
    unfold z9 at hk
    have ef := hk.frozen
    obtain ⟨e0, e1, e2, e3, e4, e5, e6, e7, e8⟩ := nine_cells hk
    obtain ⟨s0, s1, s2, s3, s4, s5, s6, s7, s8⟩ := nine hk
    clear hk
    go_wp2
    exact bodyPost_ret (v := .tuple #[.agg #[.int .i64 1, .int .i64 0, .int .u64 (wd t' 0), .int .u64 (wd t' 1), .int .u64 (wd t' 2), .int .u64 (wd t' 3), .string ⟨#[]⟩, .int .i64 0, .int .i64 0], .bool true]) (by simp [results, Tryz.results112, go_sem, s0, s1, s2, s3, s4, s5, s6, s7, s8]) rfl ⟨by rw [HV.out], below9 HX6.out.bel (Nat.le_refl _) _ _ _ _ _ _ _ _ _⟩
theorem clstok_any (l : List UInt8) (w : World) (hl : l.length ≤ 1073741824) : Calls Tryz.prog 112 #[.string (bs l)] w (Ans w (tokR ((classV l).map clsTok))) := by
  unfold classV
  by_cases h : l.head? = some 94
  · rw [if_pos h]
    match l, h with
    | a :: l, h =>
      obtain rfl : a = 94 := by simpa using h
      exact clstok_hit l w (by simp at hl; omega)
  · rw [if_neg h]; exact clstok_miss l w hl h
end Go.Proofs.YtcgjmnhmhiddkaaGreatDoor
namespace Go.Proofs.YtcgjmnhmhiddkaaGreatDoor
open Go
set_option linter.unusedVariables false
def mvN (by_ : Int) (n : Nd) : Nd :=
  if 6 ≤ n.kind ∧ n.kind ≤ 9 then { n with a := n.a + by_ }
  else if n.kind = 4 ∨ n.kind = 5 then { n with a := n.a + by_, b := n.b + by_ }
  else n
theorem mvN_kind (k : Int) (n : Nd) : (mvN k n).kind = n.kind := by unfold mvN; (repeat' split) <;> rfl
theorem mvN_zero (n : Nd) : mvN 0 n = n := by
  unfold mvN; split
  · simp
  · split <;> simp
theorem mvN_add (j k : Int) (n : Nd) : mvN j (mvN k n) = mvN (k + j) n := by
  unfold mvN
  by_cases h1 : 6 ≤ n.kind ∧ n.kind ≤ 9
  · rw [if_pos h1, if_pos (by exact h1), if_pos h1]; simp only [Int.add_assoc]
  · by_cases h2 : n.kind = 4 ∨ n.kind = 5
    · rw [if_neg h1, if_pos h2, if_neg (by exact h1), if_pos (by exact h2), if_neg h1, if_pos h2]; simp only [Int.add_assoc]
    · rw [if_neg h1, if_neg h2, if_neg h1, if_neg h2, if_neg h1, if_neg h2]
theorem map_mv_zero (l : List Nd) : l.map (mvN 0) = l := by
  rw [show mvN 0 = id from funext mvN_zero, List.map_id]
theorem map_mv_add (j k : Int) (l : List Nd) : (l.map (mvN k)).map (mvN j) = l.map (mvN (k + j)) := by
  rw [List.map_map]; congr 1; funext n; exact mvN_add j k n
def leafK (k : Int) : Prop := k = 1 ∨ k = 2 ∨ k = 3
theorem mvN_leaf {k : Int} {n : Nd} (h : leafK n.kind) : mvN k n = n := by
  unfold leafK at h; unfold mvN; rw [if_neg (by omega), if_neg (by omega)]
def seg (l : List Nd) (f k : Nat) : List Nd := (l.drop f).take k
def wrapL (kind lo hi : Int) (l : List Nd) : List Nd := l ++ [{ kind := kind, a := (l.length : Int) - 1, lo := lo, hi := hi }]
def pairL (kind : Int) (l m : List Nd) : List Nd := (l ++ m.map (mvN (l.length : Int))) ++ [{ kind := kind, a := (l.length : Int) - 1, b := (l.length : Int) + (m.length : Int) - 1 }]
def okTo (l : List Nd) (i : Nat) : Prop := ∀ j, j ≤ i → okN l j (atN l j)
inductive Cs (l : List Nd) (i : Nat) (n : Nd) : Prop where
  | leaf (hk : leafK n.kind) (hf : firstP l i = i)
  | one (hk : 6 ≤ n.kind ∧ n.kind ≤ 9) (hi : 0 < i) (ha : n.a = (i : Int) - 1) (hb : n.b = 0) (hl : n.kind ≠ 7 → n.lo = 0 ∧ n.hi = 0) (hr : n.kind = 7 → 0 ≤ n.lo ∧ n.lo ≤ n.hi ∧ n.hi ≤ 255) (hc : n.cls = 0#256 ∧ n.text = []) (hf : firstP l i = firstP l (i - 1))
  | two (hk : n.kind = 4 ∨ n.kind = 5) (hi : 0 < i) (hb : n.b = (i : Int) - 1) (ha : n.a = (firstP l (i - 1) : Int) - 1) (hf0 : 0 < firstP l (i - 1)) (hl : n.lo = 0 ∧ n.hi = 0) (hc : n.cls = 0#256 ∧ n.text = []) (hf : firstP l i = firstP l (firstP l (i - 1) - 1))
theorem okN.cs {l : List Nd} {i : Nat} {n : Nd} (hn : atN l i = n) (h : okN l i n) : Cs l i n := by
  obtain ⟨hb, hk⟩ := h
  have stop : ¬ partK n.kind → firstP l i = i := fun hp => firstP_stop (by rw [hn]; exact fun hh => hp hh.1)
  have go : partK n.kind → 0 ≤ n.a → n.a < (i : Int) → firstP l i = firstP l n.a.toNat := fun h1 h2 h3 => by
    have := firstP_go (l := l) (i := i) (by rw [hn]; exact h1) (by rw [hn]; exact h2) (by rw [hn]; exact h3); rw [hn] at this; exact this
  rcases hk with hk | hk | ⟨hk, ht⟩ | ⟨hk, h0, h1⟩ | ⟨hk, ⟨h0, h1⟩, h2, h3, h4⟩ | ⟨hk, ⟨h0, h1⟩, h2, h3⟩
  · exact .leaf (.inl hk) (stop (by unfold partK; omega))
  · exact .leaf (.inr (.inl hk)) (stop (by unfold partK; omega))
  · exact .leaf (.inr (.inr hk)) (stop (by unfold partK; omega))
  · have e : n = { kind := n.kind, a := n.a } := by
      conv => lhs; rw [← hb]
      unfold backN
      rcases hk with hk | hk | hk <;> simp [hk]
    refine .one (by omega) (by omega) h1 (by rw [e]) (fun _ => by rw [e]; exact ⟨rfl, rfl⟩) (fun h7 => by omega) (by rw [e]; exact ⟨rfl, rfl⟩) ?_
    rw [go (by unfold partK; omega) h0 (by omega), show n.a.toNat = i - 1 by omega]
  · have e : n = { kind := 7, a := n.a, lo := n.lo, hi := n.hi } := by
      conv => lhs; rw [← hb]
      unfold backN
      simp [hk]
    refine .one (by omega) (by omega) h1 (by rw [e]) (fun h7 => absurd hk h7) (fun _ => ⟨h2, h3, h4⟩) (by rw [e]; exact ⟨rfl, rfl⟩) ?_
    rw [go (by unfold partK; omega) h0 (by omega), show n.a.toNat = i - 1 by omega]
  · have e : n = { kind := n.kind, a := n.a, b := n.b } := by
      conv => lhs; rw [← hb]
      unfold backN
      rcases hk with hk | hk <;> simp [hk]
    have hle := firstP_le l (i - 1)
    rw [show n.b.toNat = i - 1 by omega] at h3
    refine .two hk (by omega) h1 h3 (by omega) (by rw [e]; exact ⟨rfl, rfl⟩) (by rw [e]; exact ⟨rfl, rfl⟩) ?_
    rw [go (by unfold partK; omega) h2 (by omega), show n.a.toNat = firstP l (i - 1) - 1 by omega]
theorem Cs.ok {l : List Nd} {i : Nat} {n : Nd} (h : Cs l i n) (hl : leafK n.kind → backN n = n ∧ (n.kind = 3 → textOk n.text = true)) : okN l i n := by
  cases h with
  | leaf hk hf =>
    obtain ⟨h1, h2⟩ := hl hk
    refine ⟨h1, ?_⟩
    rcases hk with hk | hk | hk
    · exact .inl hk
    · exact .inr (.inl hk)
    · exact .inr (.inr (.inl ⟨hk, h2 hk⟩))
  | one hk hi ha hb h7 hr hc hf =>
    obtain ⟨kind, a, b, lo, hi', cls, text⟩ := n
    simp only at *
    obtain ⟨rfl, rfl⟩ := hc
    subst hb
    by_cases hk7 : kind = 7
    · subst hk7
      exact ⟨by simp [backN], .inr (.inr (.inr (.inr (.inl ⟨rfl, ⟨by simp only; omega, ha⟩, hr rfl⟩))))⟩
    · obtain ⟨rfl, rfl⟩ := h7 hk7
      refine ⟨?_, .inr (.inr (.inr (.inl ⟨by simp only; omega, by simp only; omega, ha⟩)))⟩
      have : kind = 6 ∨ kind = 8 ∨ kind = 9 := by omega
      unfold backN
      rcases this with h | h | h <;> simp [h]
  | two hk hi hb ha hf0 hl2 hc hf =>
    obtain ⟨kind, a, b, lo, hi', cls, text⟩ := n
    simp only at *
    obtain ⟨rfl, rfl⟩ := hc
    obtain ⟨rfl, rfl⟩ := hl2
    refine ⟨?_, .inr (.inr (.inr (.inr (.inr ⟨hk, ⟨by simp only; omega, hb⟩, by simp only; omega, ?_⟩))))⟩
    · unfold backN
      rcases hk with h | h <;> simp [h]
    · simp only; rw [show b.toNat = i - 1 by omega]; exact ha
theorem okN.leafs {l : List Nd} {i : Nat} {n : Nd} (h : okN l i n) : leafK n.kind → backN n = n ∧ (n.kind = 3 → textOk n.text = true) := fun hk => by
  obtain ⟨hb, h⟩ := h
  refine ⟨hb, fun h3 => ?_⟩
  rcases h with h | h | ⟨_, ht⟩ | ⟨h, _⟩ | ⟨h, _⟩ | ⟨h, _⟩
  · omega
  · omega
  · exact ht
  · omega
  · omega
  · omega
theorem first_moved {l m : List Nd} {d : Int} {f i : Nat} (hat : ∀ j, f ≤ j → j ≤ i → 0 ≤ (j : Int) + d ∧ atN m ((j : Int) + d).toNat = mvN d (atN l j)) (hok : ∀ j, f ≤ j → j ≤ i → okN l j (atN l j) ∧ f ≤ firstP l j) :
    ∀ j, f ≤ j → j ≤ i → (firstP m ((j : Int) + d).toNat : Int) = (firstP l j : Int) + d := by
  intro j
  induction j using Nat.strongRecOn with
  | ind j ih =>
    intro h1 h2
    obtain ⟨e0, e⟩ := hat j h1 h2
    obtain ⟨ho, hfj⟩ := hok j h1 h2
    generalize hn : atN l j = n at e ho
    cases ho.cs hn with
    | leaf hk hf =>
      rw [mvN_leaf hk] at e
      rw [firstP_stop (by rw [e]; unfold leafK at hk; unfold partK; omega), hf]; omega
    | one hk hi ha hb h7 hr hc hf =>
      have hfl := firstP_le l (j - 1)
      have e2 : (mvN d n).a = n.a + d := by unfold mvN; rw [if_pos hk]
      have e3 := mvN_kind d n
      have hj1 := (hat (j - 1) (by omega) (by omega)).1
      rw [firstP_go (by rw [e, e3]; unfold partK; omega) (by rw [e, e2]; omega) (by rw [e, e2]; omega), e, e2, hf]
      rw [← ih (j - 1) (by omega) (by omega) (by omega)]
      congr 2; omega
    | two hk hi hb ha hf0 hl hc hf =>
      have hle := firstP_le l (j - 1)
      have hle2 := firstP_le l (firstP l (j - 1) - 1)
      have e2 : (mvN d n).a = n.a + d := by unfold mvN; rw [if_neg (by omega), if_pos hk]
      have e3 := mvN_kind d n
      have hj1 := (hat (firstP l (j - 1) - 1) (by omega) (by omega)).1
      rw [firstP_go (by rw [e, e3]; unfold partK; omega) (by rw [e, e2]; omega) (by rw [e, e2]; omega), e, e2, hf]
      rw [← ih (firstP l (j - 1) - 1) (by omega) (by omega) (by omega)]
      congr 2; omega
theorem ok_moved {l m : List Nd} {d : Int} {f i : Nat} (hat : ∀ j, f ≤ j → j ≤ i → 0 ≤ (j : Int) + d ∧ atN m ((j : Int) + d).toNat = mvN d (atN l j)) (hok : ∀ j, f ≤ j → j ≤ i → okN l j (atN l j) ∧ f ≤ firstP l j) :
    ∀ j, f ≤ j → j ≤ i → okN m ((j : Int) + d).toNat (atN m ((j : Int) + d).toNat) := by
  intro j h1 h2
  have hfm := first_moved hat hok
  obtain ⟨e0, e⟩ := hat j h1 h2
  obtain ⟨ho, hfj⟩ := hok j h1 h2
  have hself := hfm j h1 h2
  rw [e]
  generalize hn : atN l j = n at e ho ⊢
  have e3 := mvN_kind d n
  cases ho.cs hn with
  | leaf hk hf =>
    rw [mvN_leaf hk]
    exact (Cs.leaf hk (by omega)).ok (fun _ => ho.leafs hk)
  | one hk hi ha hb h7 hr hc hf =>
    have hfl := firstP_le l (j - 1)
    have em : mvN d n = { n with a := n.a + d } := by unfold mvN; rw [if_pos hk]
    have hj1 := (hat (j - 1) (by omega) (by omega)).1
    have hprev := hfm (j - 1) (by omega) (by omega)
    rw [em]
    refine (Cs.one (n := { n with a := n.a + d }) hk (by omega) (by show n.a + d = _; omega) hb h7 hr hc ?_).ok (fun hk2 => by have hk2 : leafK n.kind := hk2; unfold leafK at hk2; omega)
    rw [show ((j : Int) + d).toNat - 1 = (((j - 1 : Nat) : Int) + d).toNat by omega]
    omega
  | two hk hi hb ha hf0 hl hc hf =>
    have hle := firstP_le l (j - 1)
    have hle2 := firstP_le l (firstP l (j - 1) - 1)
    have em : mvN d n = { n with a := n.a + d, b := n.b + d } := by unfold mvN; rw [if_neg (by omega), if_pos hk]
    have hj1 := (hat (firstP l (j - 1) - 1) (by omega) (by omega)).1
    have hp1 := hfm (j - 1) (by omega) (by omega)
    have hp2 := hfm (firstP l (j - 1) - 1) (by omega) (by omega)
    have hx : ((j : Int) + d).toNat - 1 = (((j - 1 : Nat) : Int) + d).toNat := by omega
    rw [em]
    refine (Cs.two (n := { n with a := n.a + d, b := n.b + d }) hk (by omega) (by show n.b + d = _; omega) ?_ ?_ hl hc ?_).ok (fun hk2 => by have hk2 : leafK n.kind := hk2; unfold leafK at hk2; omega)
    · show n.a + d = _; rw [hx, hp1]; omega
    · rw [hx]; omega
    · rw [hx]
      rw [show firstP m (((j - 1 : Nat) : Int) + d).toNat - 1 = (((firstP l (j - 1) - 1 : Nat) : Int) + d).toNat by omega]
      omega
theorem atN_map {l : List Nd} {j : Nat} (h : j < l.length) (d : Int) : atN (l.map (mvN d)) j = mvN d (atN l j) := by
  unfold atN
  rw [List.getD_eq_getElem?_getD, List.getD_eq_getElem?_getD, List.getElem?_map, List.getElem?_eq_getElem h]; rfl
theorem atN_left {l m : List Nd} {j : Nat} (h : j < l.length) : atN (l ++ m) j = atN l j := by
  unfold atN
  rw [List.getD_eq_getElem?_getD, List.getD_eq_getElem?_getD, List.getElem?_append_left h]
theorem atN_right {l m : List Nd} {j : Nat} (h : l.length ≤ j) : atN (l ++ m) j = atN m (j - l.length) := by
  unfold atN
  rw [List.getD_eq_getElem?_getD, List.getD_eq_getElem?_getD, List.getElem?_append_right h]
theorem Form.okTo {l : List Nd} (h : Form l) {i : Nat} (hi : i < l.length) : okTo l i := fun j hj => h.2.1 j (by omega)
theorem wrap_form {l : List Nd} (h : Form l) {kind lo hi : Int} (hk : kind = 6 ∨ kind = 8 ∨ kind = 9) (h0 : lo = 0 ∧ hi = 0) : Form (wrapL kind lo hi l) := by
  obtain ⟨rfl, rfl⟩ := h0
  obtain ⟨h0, h1, h2⟩ := h
  have hc : ∀ i, i < l.length → firstP (wrapL kind 0 0 l) i = firstP l i := fun i hi => firstP_congr fun j hj => atN_left (by omega)
  have hlast : atN (wrapL kind 0 0 l) l.length = { kind := kind, a := (l.length : Int) - 1 } := by
    unfold wrapL; rw [atN_right (Nat.le_refl _), Nat.sub_self]; rfl
  have hf : firstP (wrapL kind 0 0 l) l.length = 0 := by
    rw [firstP_go (by rw [hlast]; unfold partK; simp only; omega) (by rw [hlast]; simp only; omega) (by rw [hlast]; simp only; omega), hlast]
    simp only
    rw [show ((l.length : Int) - 1).toNat = l.length - 1 by omega, hc _ (by omega), h2]
  refine ⟨by unfold wrapL; simp, fun i hi => ?_, by unfold wrapL at hf ⊢; simpa using hf⟩
  by_cases hil : i < l.length
  · rw [show atN (wrapL kind 0 0 l) i = atN l i from atN_left hil]
    exact (okN_congr (fun j hj => atN_left (by omega)) _).2 (h1 i hil)
  · obtain rfl : i = l.length := by unfold wrapL at hi; simp at hi; omega
    rw [hlast]
    refine ⟨?_, .inr (.inr (.inr (.inl ⟨hk, by simp only; omega, rfl⟩)))⟩
    unfold backN; rcases hk with h | h | h <;> simp [h]
theorem wrap_form7 {l : List Nd} (h : Form l) {lo hi : Int} (h3 : 0 ≤ lo) (h4 : lo ≤ hi) (h5 : hi ≤ 255) : Form (wrapL 7 lo hi l) := by
  obtain ⟨h0, h1, h2⟩ := h
  have hc : ∀ i, i < l.length → firstP (wrapL 7 lo hi l) i = firstP l i := fun i hi => firstP_congr fun j hj => atN_left (by omega)
  have hlast : atN (wrapL 7 lo hi l) l.length = { kind := 7, a := (l.length : Int) - 1, lo := lo, hi := hi } := by
    unfold wrapL; rw [atN_right (Nat.le_refl _), Nat.sub_self]; rfl
  have hf : firstP (wrapL 7 lo hi l) l.length = 0 := by
    rw [firstP_go (by rw [hlast]; unfold partK; simp only; omega) (by rw [hlast]; simp only; omega) (by rw [hlast]; simp only; omega), hlast]
    simp only
    rw [show ((l.length : Int) - 1).toNat = l.length - 1 by omega, hc _ (by omega), h2]
  refine ⟨by unfold wrapL; simp, fun i hi2 => ?_, by unfold wrapL at hf ⊢; simpa using hf⟩
  by_cases hil : i < l.length
  · rw [show atN (wrapL 7 lo hi l) i = atN l i from atN_left hil]
    exact (okN_congr (fun j hj => atN_left (by omega)) _).2 (h1 i hil)
  · obtain rfl : i = l.length := by unfold wrapL at hi2; simp at hi2; omega
    rw [hlast]
    exact ⟨by simp [backN], .inr (.inr (.inr (.inr (.inl ⟨rfl, ⟨by simp only; omega, rfl⟩, h3, h4, h5⟩))))⟩
theorem pair_at {l m : List Nd} {kind : Int} : (∀ j, j < l.length → atN (pairL kind l m) j = atN l j) ∧ (∀ j, j < m.length → atN (pairL kind l m) (l.length + j) = mvN l.length (atN m j)) ∧ atN (pairL kind l m) (l.length + m.length) = { kind := kind, a := (l.length : Int) - 1, b := (l.length : Int) + (m.length : Int) - 1 } := by
  unfold pairL
  refine ⟨fun j hj => ?_, fun j hj => ?_, ?_⟩
  · rw [atN_left (by simp; omega), atN_left hj]
  · rw [atN_left (by simp; omega), atN_right (by omega), Nat.add_sub_cancel_left, atN_map hj]
  · rw [atN_right (by simp)]; simp [atN]
theorem pair_first {l m : List Nd} (hm : Form m) {kind : Int} : (∀ j, j < m.length → firstP (pairL kind l m) (l.length + j) = l.length + firstP m j) ∧ ∀ j, j < m.length → okN (pairL kind l m) (l.length + j) (atN (pairL kind l m) (l.length + j)) := by
  have hat : ∀ j, 0 ≤ j → j ≤ m.length - 1 → 0 ≤ (j : Int) + (l.length : Int) ∧ atN (pairL kind l m) ((j : Int) + (l.length : Int)).toNat = mvN (l.length : Int) (atN m j) := by
    intro j _ hj
    refine ⟨by omega, ?_⟩
    have := hm.1
    rw [← (pair_at (l := l) (m := m) (kind := kind)).2.1 j (by omega)]
    congr 1; omega
  have hok : ∀ j, 0 ≤ j → j ≤ m.length - 1 → okN m j (atN m j) ∧ 0 ≤ firstP m j := fun j _ hj => by
    have := hm.1
    exact ⟨hm.2.1 j (by omega), Nat.zero_le _⟩
  constructor
  · intro j hj
    have := first_moved hat hok j (Nat.zero_le _) (by omega)
    rw [show ((j : Int) + (l.length : Int)).toNat = l.length + j by omega] at this
    omega
  · intro j hj
    have := ok_moved hat hok j (Nat.zero_le _) (by omega)
    rw [show ((j : Int) + (l.length : Int)).toNat = l.length + j by omega] at this
    exact this
theorem pair_form {l m : List Nd} (hl : Form l) (hm : Form m) {kind : Int} (hk : kind = 4 ∨ kind = 5) : Form (pairL kind l m) := by
  obtain ⟨p1, p2, p3⟩ := pair_at (l := l) (m := m) (kind := kind)
  obtain ⟨f1, f2⟩ := pair_first (l := l) hm (kind := kind)
  have h0 := hl.1; have h1 := hm.1
  have hlen : (pairL kind l m).length = l.length + m.length + 1 := by unfold pairL; simp; omega
  have hfb : firstP (pairL kind l m) (l.length + m.length - 1) = l.length := by
    have := f1 (m.length - 1) (by omega)
    rw [hm.2.2, show l.length + (m.length - 1) = l.length + m.length - 1 by omega] at this
    exact this
  have hfa : firstP (pairL kind l m) (l.length - 1) = 0 := by
    rw [firstP_congr (m := l) (fun j hj => p1 j (by omega)), hl.2.2]
  have hf : firstP (pairL kind l m) (l.length + m.length) = 0 := by
    rw [firstP_go (by rw [p3]; unfold partK; simp only; omega) (by rw [p3]; simp only; omega) (by rw [p3]; simp only; omega), p3]
    simp only
    rw [show ((l.length : Int) - 1).toNat = l.length - 1 by omega, hfa]
  refine ⟨by omega, fun i hi => ?_, by rw [hlen]; exact hf⟩
  by_cases hil : i < l.length
  · rw [p1 i hil]
    exact (okN_congr (fun j hj => p1 j (by omega)) _).2 (hl.2.1 i hil)
  · by_cases him : i < l.length + m.length
    · have := f2 (i - l.length) (by omega)
      rw [show l.length + (i - l.length) = i by omega] at this
      exact this
    · obtain rfl : i = l.length + m.length := by omega
      rw [p3]
      refine ⟨by unfold backN; rcases hk with h | h <;> simp [h], .inr (.inr (.inr (.inr (.inr ⟨hk, ⟨by simp only; omega, by simp only; omega⟩, by simp only; omega, ?_⟩))))⟩
      simp only
      rw [show ((l.length : Int) + (m.length : Int) - 1).toNat = l.length + m.length - 1 by omega, hfb]
end Go.Proofs.YtcgjmnhmhiddkaaGreatDoor
