/- What the document's package of layer 2 says two bytes of one part by, and the bytes that are like none below them. -/
import Derived.Test.YtjopngcjahdodaaDoorSplitAwake
import Derived.Test.YtjopngcjahdodaaDoorSplitHeadsM
namespace Go.Proofs.YtjopngcjahdodaaDoor
open Go Go.RowKit
set_option linter.unusedVariables false

structure LikS (w0 : World) (A : Option Addr) (l : List (BitVec 256)) (w : World) : Prop where
  below : Below w0.heap.size w0 w
  row : LRow w A l
theorem LikS.later {w0 w w' : World} {A : Option Addr} {l : List (BitVec 256)} (h : LikS w0 A l w) (hb : Below w.heap.size w w') : LikS w0 A l w' := ⟨h.below.trans (hb.mono h.below.size), h.row.later hb⟩
def LikL (w0 : World) (A : Option Addr) (l : List (BitVec 256)) (c d : Nat) (i : Value) (w : World) : Prop := ∃ k, k ≤ l.length ∧ i = .int .i64 k ∧ likeB (l.take k) c d = true ∧ LikS w0 A l w
theorem like_take {l : List (BitVec 256)} {c d k : Nat} (hk : k < l.length) (h : likeB (l.take k) c d = true) : likeB (l.take (k + 1)) c d = ((l.getD k 0).getLsbD c == (l.getD k 0).getLsbD d) := by
  have hg : l.getD k 0 = l[k] := by simp [hk]
  rw [List.take_succ_eq_append_getElem hk, like_append, h, hg]
  unfold likeB; simp
theorem like_false {l : List (BitVec 256)} {c d k : Nat} (hk : k < l.length) (h : ((l.getD k 0).getLsbD c == (l.getD k 0).getLsbD d) = false) : likeB l c d = false := by
  have hg : l.getD k 0 = l[k] := by simp [hk]
  cases hl : likeB l c d with
  | false => rfl
  | true =>
    have := like_iff.1 hl l[k] (List.getElem_mem hk)
    rw [hg, this] at h
    simp at h

set_option maxRecDepth 1000000 in
set_option maxHeartbeats 16000000 in
theorem like_any (l : List (BitVec 256)) (A : Option Addr) (cap c d : Nat) (w : World) (hr : LRow w A l) (hc : c < 256) (hd : d < 256) (hl : l.length < 1073741824) :
    Calls Tryd.prog 27 #[.slice A l.length cap, .int .u8 (c : Int), .int .u8 (d : Int)] w (Ans w (.bool (likeB l c d))) := by
  have H := Lib.hid (LikS.mk (Below.refl w.heap.size w) hr)
  clear hr
  obtain ⟨r, hr⟩ : ∃ r, likeB l c d = r := ⟨_, rfl⟩
  rw [hr]
  have HR := Lib.hid hr
  clear hr
  go_enter Tryd.func27, Tryd.ntmps27
  go_wp2
  go_loopw [7] (LikL w A l c d) (fun i _ => l.length - (intOf i).toNat)
  case atStart => exact ⟨0, Nat.zero_le _, rfl, rfl, H.out⟩
  case round =>
    obtain ⟨k, hk, rfl, ht, hS⟩ := hrel
    have HS := Lib.hid hS
    have HT := Lib.hid ht
    clear hS ht H
    by_cases hlt : k < l.length
    · have hltz : (k : Int) < (l.length : Int) := by omega
      obtain ⟨b1, o1, hA, -⟩ := HS.out.row.cells k hlt
      subst hA
      have f1 : ∀ w, LRow w (some ⟨b1, o1, none⟩) l → At w b1 (o1 + k * 4) (l.getD k 0) := fun w h => h.at k _ hlt rfl
      have F1 := Lib.hid f1
      have HY := Lib.hid (like_take hlt HT.out)
      have HN := Lib.hid (fun h => like_false (c := c) (d := d) hlt h)
      clear f1
      generalize l.getD k 0 = x at *
      have hhc := refhas_any x c hc
      have hhd := refhas_any x d hd
      cases hx : x.getLsbD c with
      | true =>
        cases hy : x.getLsbD d with
        | true =>
          rw [hx] at hhc; rw [hy] at hhd
          have HY2 : Hid (likeB (l.take (k + 1)) c d = true) := by unfold Hid; rw [HY.out, hx, hy]; rfl
          clear hx hy HY HN
          go_upto_region 4 with (fail)
          refine wp_region_stable (S := (LikS w (some ⟨b1, o1, none⟩) l)) (hSt := fun _ _ h hb => h.later hb) (plan := [[(0, none)], [(7, none)], [(14, some 0), (15, some 1)], [(16, some 2)], [(1, none)], [(17, some 3), (18, some 4)], [(0, none)], [(7, none)], [(20, some 6), (21, some 7)], [(22, some 8)], [(2, none)], [(23, some 9), (24, some 10)], [(19, some 5), (25, some 11)]]) (by kernel_rfl) (by kernel_rfl) (by kernel_rfl) ?hS ?_
          rotate_left
          iterate 13 first
            | (refine chain_skip (by rfl) (by rfl) ?_)
            | (apply chain_want (by rfl)
               · intro act wx hS hr
                 simp at hr
                 have h1 := F1.out _ hS.row
                 unfold At at h1
                 go_simp
                 (try go_ints)
                 first
                   | exact Done.same (v := cls _)
                   | ((with_reducible refine (hhc _).mono ?_); rintro e w' ⟨rfl, hb⟩; exact Done.mk hb)
                   | ((with_reducible refine (hhd _).mono ?_); rintro e w' ⟨rfl, hb⟩; exact Done.mk hb)
                   | exact Done.same
              )
          show ∀ w', _ → _
          intro wz hz
          simp [Act.put]
          case hS => exact HS.out
          have HZ := Lib.hid hz
          clear hz hhc hhd
          go_wp2
          go_roundw
          case rel => exact ⟨k + 1, by omega, by go_num, HY2.out, HZ.out⟩
          case measure => simp [intOf]; omega
        | false =>
          rw [hx] at hhc; rw [hy] at hhd
          have hrf : r = false := by rw [← HR.out]; exact HN.out (by rw [hx, hy]; rfl)
          subst hrf
          clear hx hy HY HN
          go_upto_region 4 with (fail)
          refine wp_region_stable (S := (LikS w (some ⟨b1, o1, none⟩) l)) (hSt := fun _ _ h hb => h.later hb) (plan := [[(0, none)], [(7, none)], [(14, some 0), (15, some 1)], [(16, some 2)], [(1, none)], [(17, some 3), (18, some 4)], [(0, none)], [(7, none)], [(20, some 6), (21, some 7)], [(22, some 8)], [(2, none)], [(23, some 9), (24, some 10)], [(19, some 5), (25, some 11)]]) (by kernel_rfl) (by kernel_rfl) (by kernel_rfl) ?hS ?_
          rotate_left
          iterate 13 first
            | (refine chain_skip (by rfl) (by rfl) ?_)
            | (apply chain_want (by rfl)
               · intro act wx hS hr
                 simp at hr
                 have h1 := F1.out _ hS.row
                 unfold At at h1
                 go_simp
                 (try go_ints)
                 first
                   | exact Done.same (v := cls _)
                   | ((with_reducible refine (hhc _).mono ?_); rintro e w' ⟨rfl, hb⟩; exact Done.mk hb)
                   | ((with_reducible refine (hhd _).mono ?_); rintro e w' ⟨rfl, hb⟩; exact Done.mk hb)
                   | exact Done.same
              )
          show ∀ w', _ → _
          intro wz hz
          simp [Act.put]
          case hS => exact HS.out
          have HZ := Lib.hid hz
          clear hz hhc hhd
          go_wp2
          go_ret
          exact ⟨rfl, HZ.out.below⟩
      | false =>
        cases hy : x.getLsbD d with
        | true =>
          rw [hx] at hhc; rw [hy] at hhd
          have hrf : r = false := by rw [← HR.out]; exact HN.out (by rw [hx, hy]; rfl)
          subst hrf
          clear hx hy HY HN
          go_upto_region 4 with (fail)
          refine wp_region_stable (S := (LikS w (some ⟨b1, o1, none⟩) l)) (hSt := fun _ _ h hb => h.later hb) (plan := [[(0, none)], [(7, none)], [(14, some 0), (15, some 1)], [(16, some 2)], [(1, none)], [(17, some 3), (18, some 4)], [(0, none)], [(7, none)], [(20, some 6), (21, some 7)], [(22, some 8)], [(2, none)], [(23, some 9), (24, some 10)], [(19, some 5), (25, some 11)]]) (by kernel_rfl) (by kernel_rfl) (by kernel_rfl) ?hS ?_
          rotate_left
          iterate 13 first
            | (refine chain_skip (by rfl) (by rfl) ?_)
            | (apply chain_want (by rfl)
               · intro act wx hS hr
                 simp at hr
                 have h1 := F1.out _ hS.row
                 unfold At at h1
                 go_simp
                 (try go_ints)
                 first
                   | exact Done.same (v := cls _)
                   | ((with_reducible refine (hhc _).mono ?_); rintro e w' ⟨rfl, hb⟩; exact Done.mk hb)
                   | ((with_reducible refine (hhd _).mono ?_); rintro e w' ⟨rfl, hb⟩; exact Done.mk hb)
                   | exact Done.same
              )
          show ∀ w', _ → _
          intro wz hz
          simp [Act.put]
          case hS => exact HS.out
          have HZ := Lib.hid hz
          clear hz hhc hhd
          go_wp2
          go_ret
          exact ⟨rfl, HZ.out.below⟩
        | false =>
          rw [hx] at hhc; rw [hy] at hhd
          have HY2 : Hid (likeB (l.take (k + 1)) c d = true) := by unfold Hid; rw [HY.out, hx, hy]; rfl
          clear hx hy HY HN
          go_upto_region 4 with (fail)
          refine wp_region_stable (S := (LikS w (some ⟨b1, o1, none⟩) l)) (hSt := fun _ _ h hb => h.later hb) (plan := [[(0, none)], [(7, none)], [(14, some 0), (15, some 1)], [(16, some 2)], [(1, none)], [(17, some 3), (18, some 4)], [(0, none)], [(7, none)], [(20, some 6), (21, some 7)], [(22, some 8)], [(2, none)], [(23, some 9), (24, some 10)], [(19, some 5), (25, some 11)]]) (by kernel_rfl) (by kernel_rfl) (by kernel_rfl) ?hS ?_
          rotate_left
          iterate 13 first
            | (refine chain_skip (by rfl) (by rfl) ?_)
            | (apply chain_want (by rfl)
               · intro act wx hS hr
                 simp at hr
                 have h1 := F1.out _ hS.row
                 unfold At at h1
                 go_simp
                 (try go_ints)
                 first
                   | exact Done.same (v := cls _)
                   | ((with_reducible refine (hhc _).mono ?_); rintro e w' ⟨rfl, hb⟩; exact Done.mk hb)
                   | ((with_reducible refine (hhd _).mono ?_); rintro e w' ⟨rfl, hb⟩; exact Done.mk hb)
                   | exact Done.same
              )
          show ∀ w', _ → _
          intro wz hz
          simp [Act.put]
          case hS => exact HS.out
          have HZ := Lib.hid hz
          clear hz hhc hhd
          go_wp2
          go_roundw
          case rel => exact ⟨k + 1, by omega, by go_num, HY2.out, HZ.out⟩
          case measure => simp [intOf]; omega
    · obtain rfl : k = l.length := by omega
      have hrt : r = true := by rw [← HR.out]; have := HT.out; rwa [List.take_length] at this
      subst hrt
      go_wp2
      go_ret
      exact ⟨rfl, HS.out.below⟩
end Go.Proofs.YtjopngcjahdodaaDoor
