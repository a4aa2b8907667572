/- The document's heads of layer 2: the bytes that are like none below them. -/
import Derived.Test.YtjopngcjahdodaaDoorSplitLike
namespace Go.Proofs.YtjopngcjahdodaaDoor
open Go Go.RowKit
set_option linter.unusedVariables false

theorem head_all (l : List (BitVec 256)) (c : Nat) (hc : c < 256) : headB l c = (headsTo l c).all fun h => !likeB l h c := by
  rw [Bool.eq_iff_iff, head_iff, List.all_eq_true]
  constructor
  · intro h x hx
    unfold headsTo at hx
    rw [List.mem_filter, List.mem_range] at hx
    rw [h x hx.1]; rfl
  · intro h d hd
    cases hl : likeB l d c with
    | false => rfl
    | true =>
      obtain ⟨h1, h2, h3⟩ := head_lst (l := l) hc
      have hle : lstB (cellB l c) ≤ d := by
        have hls := least_of_ne (nonzero_of (cell_self l c hc))
        rcases Nat.lt_or_ge d (lstB (cellB l c)) with e | e
        · have := hls.low d e
          rw [cell_bit _ _ _ (by omega), like_symm hl] at this; cases this
        · exact e
      have hm : lstB (cellB l c) ∈ headsTo l c := by unfold headsTo; rw [List.mem_filter, List.mem_range]; exact ⟨by omega, h1⟩
      have := h _ hm
      rw [like_symm h2] at this; cases this
theorem headsTo_lt (l : List (BitVec 256)) (c : Nat) : ∀ x ∈ headsTo l c, x < c := fun x hx => by
  unfold headsTo at hx; rw [List.mem_filter, List.mem_range] at hx; exact hx.1
theorem headsTo_len (l : List (BitVec 256)) (c : Nat) : (headsTo l c).length ≤ c := by unfold headsTo; exact Nat.le_trans (List.length_filter_le _ _) (by simp)
def aloneB (l : List (BitVec 256)) (c : Nat) (H : List Nat) (j : Nat) : Bool := (H.take j).all fun h => !likeB l h c
theorem alone_succ {l : List (BitVec 256)} {c : Nat} {H : List Nat} {j : Nat} (hj : j < H.length) (h : aloneB l c H j = true) : aloneB l c H (j + 1) = !likeB l (H.getD j 0) c := by
  have hg : H.getD j 0 = H[j] := by simp [hj]
  unfold aloneB at *
  rw [List.take_succ_eq_append_getElem hj, List.all_append, h, hg]; simp
theorem alone_no {l : List (BitVec 256)} {c : Nat} {H : List Nat} {j : Nat} (h : aloneB l c H j = false) : (H.all fun h => !likeB l h c) = false := by
  unfold aloneB at h
  rw [List.all_eq_false] at h ⊢
  obtain ⟨x, hx, h2⟩ := h
  exact ⟨x, List.mem_of_mem_take hx, h2⟩

def RHL (l : List (BitVec 256)) (w0 : World) (v c : Value) (w : World) : Prop := ∃ k : Nat, k ≤ 256 ∧ c = .int .i64 k ∧ Own8 w w0.heap.size v (headsTo l k) ∧ Below w0.heap.size w0 w
def RHI (l : List (BitVec 256)) (w0 : World) (k : Nat) (v s i : Value) (w : World) : Prop := ∃ j : Nat, j ≤ (headsTo l k).length ∧ i = .int .i64 j ∧ s = .bool (aloneB l k (headsTo l k) j) ∧ Own8 w w0.heap.size v (headsTo l k) ∧ Below w0.heap.size w0 w

set_option maxRecDepth 1000000 in
set_option maxHeartbeats 16000000 in
theorem refheads_any (l : List (BitVec 256)) (A : Option Addr) (cap : Nat) (w : World) (hr : LRow w A l) (hl : l.length < 1073741824) :
    Calls Tryd.prog 15 #[.slice A l.length cap] w (AnsBytes w (headsL l)) := by
  have HR := Lib.hid hr
  clear hr
  go_enter Tryd.func15, Tryd.ntmps15
  go_wp2
  go_loopw [3, 4] (RHL l w) (fun _ c _ => 256 - (intOf c).toNat)
  case atStart => exact ⟨0, by omega, rfl, Own8.nil _ _, Below.refl _ _⟩
  case round =>
    obtain ⟨k, hk, rfl, ho, hb⟩ := hrel
    have HO := Lib.hid ho
    have HB := Lib.hid hb
    have hnl := headsTo_len l k
    by_cases hk2 : k < 256
    · have hk2z : (k : Int) < 256 := by omega
      have hk0 : (0 : Int) ≤ (k : Int) := by omega
      have hk1 : (k : Int) ≤ 255 := by omega
      have HHS := Lib.hid (headsTo_succ l k)
      have HHA := Lib.hid (head_all l k hk2)
      have HHL := Lib.hid (headsTo_lt l k)
      obtain ⟨a3, c3, hv3, -⟩ : IsBytes (headsTo l k) u3 wr := ho.isBytes (fun x hx => by have := HHL.out x hx; omega) (by omega)
      subst hv3
      clear ho hb
      go_wp2
      go_loopw [5, 6] (fun s i wr2 => RHI l w k (.slice a3 (headsTo l k).length c3) s i wr2) (fun _ i _ => (headsTo l k).length + 1 - (intOf i).toNat)
      case atStart => exact ⟨0, Nat.zero_le _, rfl, rfl, HO.out, HB.out⟩
      case round =>
        obtain ⟨j, hj, rfl, rfl, ho, hb⟩ := hrel
        have HO2 := Lib.hid ho
        have HB2 := Lib.hid hb
        have hsB := hb.size
        by_cases hjl : j < (headsTo l k).length
        · have hjz : (j : Int) < ((headsTo l k).length : Int) := by omega
          cases hal : aloneB l k (headsTo l k) j with
          | true =>
            have HAS := Lib.hid (alone_succ hjl hal)
            obtain ⟨a4, c4, hv4, hr3⟩ : IsBytes (headsTo l k) (.slice a3 (headsTo l k).length c3) wr := ho.isBytes (fun x hx => by have := HHL.out x hx; omega) (by omega)
            obtain rfl : a3 = a4 := by cases hv4; rfl
            obtain ⟨b3, o3, hA3, _, hc3⟩ := hr3.2.2 j hjl
            have hxl : (headsTo l k).getD j 0 < 256 := by
              have := HHL.out ((headsTo l k).getD j 0) (by simp [hjl])
              omega
            have hrow := HR.out.later hb
            obtain ⟨x, hxe⟩ : ∃ x, x = (headsTo l k).getD j 0 := ⟨_, rfl⟩
            rw [← hxe] at hc3 hxl
            have HXE := Lib.hid hxe
            have HROW := Lib.hid hrow
            subst hA3
            clear ho hb hr3 hxe hrow hv4
            go_wp2_with fail
            refine (like_any l A cap x k _ HROW.out hxl hk2 hl).mono ?_
            rintro e w3 ⟨rfl, hb3⟩
            have HQ : Hid (RHI l w k (.slice (some ⟨b3, o3, none⟩) (headsTo l k).length c3) (.bool (!likeB l x k)) (.int .i64 ((j + 1 : Nat) : Int)) w3) :=
              ⟨j + 1, by omega, rfl, by rw [HAS.out, HXE.out], HO2.out.later hb3, HB2.out.trans (hb3.mono hsB)⟩
            clear hb3
            go_wp2
            go_roundw
            case rel => first | exact HQ.out | ((repeat apply Exists.intro); exact ⟨HQ.out, rfl⟩)
            case measure => simp [intOf]; omega
          | false =>
            have hhb : headB l k = false := by rw [HHA.out]; exact alone_no hal
            have HE : Hid (headsTo l (k + 1) = headsTo l k) := by unfold Hid; rw [HHS.out, hhb]; simp
            clear ho hb
            go_wp2
            go_roundw
            case rel => first | exact ⟨k + 1, by omega, by go_num, by rw [HE.out]; exact HO2.out, HB2.out⟩ | ((repeat apply Exists.intro); exact ⟨⟨k + 1, by omega, by go_num, by rw [HE.out]; exact HO2.out, HB2.out⟩, rfl⟩)
            case measure => simp [intOf]; omega
        · have hje : j = (headsTo l k).length := by omega
          have hjz : ¬ (j : Int) < ((headsTo l k).length : Int) := by omega
          have hal : aloneB l k (headsTo l k) j = headB l k := by rw [HHA.out]; unfold aloneB; rw [hje, List.take_length]
          rw [hal]
          clear hal hje
          cases hb2 : headB l k with
          | true =>
            have HE : Hid (headsTo l (k + 1) = headsTo l k ++ [k]) := by unfold Hid; rw [HHS.out, if_pos hb2]
            have HO3 := Lib.hid (ho.later ((Below.refl _ _).alloc (Nat.le_refl _) (.cells #[.int .u8 (k : Int)] 5)))
            have HB3 := Lib.hid (hb.alloc hsB (.cells #[.int .u8 (k : Int)] 5))
            have HBK := Lib.hid (Blk.new wr #[.int .u8 (k : Int)] 5)
            have hbs : w.heap.size ≤ (wr.alloc (.cells #[.int .u8 (k : Int)] 5)).heap.size := by simp; omega
            have hlen2 : (headsTo l k).length < 1073741824 := by omega
            clear ho hb
            go_wp2_with (at_builtin; refine wpList_append_u8 rfl _ _ rfl w.heap.size (.slice a3 (headsTo l k).length c3) (headsTo l k) rfl HO3.out wr.heap.size k rfl HBK.out hlen2 hbs ?_; intro v' w4 ho4 hb4)
            have HQ : Hid (Own8 w4 w.heap.size v' (headsTo l (k + 1)) ∧ Below w.heap.size w w4) := ⟨by rw [HE.out]; exact ho4, HB3.out.trans (hb4 _ (Nat.le_refl _))⟩
            clear ho4 hb4
            go_wp2
            go_roundw
            case rel => first | exact ⟨k + 1, by omega, by go_num, HQ.out⟩ | ((repeat apply Exists.intro); exact ⟨⟨k + 1, by omega, by go_num, HQ.out⟩, rfl⟩)
            case measure => simp [intOf]; omega
          | false =>
            have HE : Hid (headsTo l (k + 1) = headsTo l k) := by unfold Hid; rw [HHS.out, hb2]; simp
            clear ho hb
            go_wp2
            go_roundw
            case rel => first | exact ⟨k + 1, by omega, by go_num, by rw [HE.out]; exact HO2.out, HB2.out⟩ | ((repeat apply Exists.intro); exact ⟨⟨k + 1, by omega, by go_num, by rw [HE.out]; exact HO2.out, HB2.out⟩, rfl⟩)
            case measure => simp [intOf]; omega
    · obtain rfl : k = 256 := by omega
      rw [headsTo_all] at ho
      have HQ : Hid (IsBytes (headsL l) u3 wr ∧ Below w.heap.size w wr) := ⟨ho.isBytes (heads_lt l) (by have := heads_le l; omega), hb⟩
      clear ho hb HO HB
      go_wp2
      go_returns
      exact ⟨_, rfl, HQ.out⟩
end Go.Proofs.YtjopngcjahdodaaDoor
