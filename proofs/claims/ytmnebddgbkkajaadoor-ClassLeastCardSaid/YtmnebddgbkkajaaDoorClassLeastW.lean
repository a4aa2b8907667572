/- The statement ClassLeast of layer 1, walked: the least byte, taken away one by one. -/
import Derived.Test.YtmnebddgbkkajaaDoorClassWalks
import Derived.Test.YtmnebddgbkkajaaDoorClassAwake
import Derived.Deep.Cut
namespace Go.Proofs.YtmnebddgbkkajaaDoor
open Go Go.RowKit
set_option linter.unusedVariables false

structure LeastS (w0 : World) (b : Nat) (s t : BitVec 256) (w : World) : Prop where
  below : Below w0.heap.size w0 w
  deb : Deb w
  blk0 : Blk w w0.heap.size (cells4 s) 24
  blk : Blk w b (cells4 t) 24
theorem LeastS.later {w0 w w' : World} {b : Nat} {s t : BitVec 256} (h : LeastS w0 b s t w) (hb : Below w.heap.size w w') : LeastS w0 b s t w' :=
  ⟨h.below.trans (hb.mono h.below.size), h.deb.below hb, h.blk0.later hb, h.blk.later hb⟩
theorem LeastS.set {w0 w : World} {b : Nat} {s t : BitVec 256} (h : LeastS w0 b s t w) (hne : w0.heap.size < b) (hg : 0 < w0.heap.size) (t' : BitVec 256) :
    LeastS w0 b s t' ((((w.setCell ⟨b, 0, none⟩ (.int .u64 (wd t' 0))).setCell ⟨b, 1, none⟩ (.int .u64 (wd t' 1))).setCell ⟨b, 2, none⟩ (.int .u64 (wd t' 2))).setCell ⟨b, 3, none⟩ (.int .u64 (wd t' 3))) := by
  have hb : ∀ B, B ≤ b → Below B w ((((w.setCell ⟨b, 0, none⟩ (.int .u64 (wd t' 0))).setCell ⟨b, 1, none⟩ (.int .u64 (wd t' 1))).setCell ⟨b, 2, none⟩ (.int .u64 (wd t' 2))).setCell ⟨b, 3, none⟩ (.int .u64 (wd t' 3))) :=
    fun B hB => ((((Below.refl B w).setCell (p := ⟨b, 0, none⟩) hB _).setCell (p := ⟨b, 1, none⟩) hB _).setCell (p := ⟨b, 2, none⟩) hB _).setCell (p := ⟨b, 3, none⟩) hB _
  refine ⟨h.below.trans (hb _ (by omega)), ?_, h.blk0.below (hb _ (Nat.le_refl _)) hne, h.blk.set4 t'⟩
  have hbb := hb b (Nat.le_refl _)
  exact ⟨Nat.lt_of_lt_of_le h.deb.1 hbb.size, fun i hi => (hbb.cell (p := ⟨_, i, none⟩) (by show 0 < b; omega)).trans (h.deb.2 i hi)⟩

/-- What is left when the bytes up to 'last' are taken away. -/
def Left (s t : BitVec 256) (k : Nat) (last : Int) : Prop := (∀ c, c < 256 → t.getLsbD c = (s.getLsbD c && decide (last < (c : Int)))) ∧ cntS s = k + cntS t

theorem cnt_drop {p q : Nat → Bool} {m : Nat} (hp : p m = true) (hq : ∀ i, q i = (p i && !decide (i = m))) : ∀ n, m < n → cnt p n = cnt q n + 1
  | 0, h => by omega
  | n + 1, h => by
    by_cases e : m = n
    · subst e
      have : cnt p m = cnt q m := cnt_congr fun i hi => by rw [hq]; have : i ≠ m := by omega
                                                           simp [this]
      show cnt p m + (if p m then 1 else 0) = cnt q m + (if q m then 1 else 0) + 1
      rw [this, hp, hq m]; simp
    · have ih := cnt_drop hp hq n (by omega)
      have : q n = p n := by rw [hq]; have : n ≠ m := fun h => e h.symm
                             simp [this]
      show cnt p n + (if p n then 1 else 0) = cnt q n + (if q n then 1 else 0) + 1
      rw [ih, this]; omega

theorem Left.step {s t : BitVec 256} {k m : Nat} {last : Int} (h : Left s t k last) (hm : IsLeast t m) :
    last < (m : Int) ∧ s.getLsbD m = true ∧ Left s (t &&& ~~~rowB m m) (k + 1) m := by
  have hmm := hm.has
  rw [h.1 m hm.lt] at hmm
  simp only [Bool.and_eq_true, decide_eq_true_eq] at hmm
  refine ⟨hmm.2, hmm.1, fun c hc => ?_, ?_⟩
  · rw [BitVec.getLsbD_and, BitVec.getLsbD_not, rowB_bit _ _ _ hc, h.1 c hc]
    have hl : c < m → (s.getLsbD c && decide (last < (c : Int))) = false := fun hlt => by rw [← h.1 c hc]; exact hm.low c hlt
    by_cases h1 : c < m
    · have := hl h1
      rw [this]
      have h2 : ¬ ((m : Int) < c) := by omega
      simp [h2]
    · by_cases h2 : c = m
      · subst h2; simp
      · have e1 : last < (c : Int) := by omega
        have e2 : (m : Int) < c := by omega
        have e3 : ¬ (m ≤ c ∧ c ≤ m) := by omega
        simp [e1, e2, e3, hc]
  · rw [h.2]
    have : cntS t = cntS (t &&& ~~~rowB m m) + 1 := by
      unfold cntS
      refine cnt_drop (m := m) hm.has (fun i => ?_) 256 hm.lt
      by_cases hi : i < 256
      · rw [BitVec.getLsbD_and, BitVec.getLsbD_not, rowB_bit _ _ _ hi]
        have e : (m ≤ i ∧ i ≤ m) ↔ i = m := by omega
        simp [hi, e]
      · rw [BitVec.getLsbD_of_ge _ _ (by omega), BitVec.getLsbD_of_ge _ _ (by omega)]; simp
    omega

set_option maxRecDepth 100000 in
set_option maxHeartbeats 8000000 in
theorem leastw_walk (s : BitVec 256) (w : World) (hd : Deb w) :
    Calls Tryd.prog 6 #[cls s] w (Ans w (.bool true)) := by
  have HD := Lib.hid hd
  have hg := Lib.hid hd.1
  clear hd
  unfold cls
  go_enter Tryd.func6, Tryd.ntmps6
  go_wp2_with fail
  refine (awake_any _ (HD.out.alloc _)).mono ?_; rintro e w1 ⟨rfl, hb⟩
  have c0 := (Blk.new w (cells4 s) 24).later hb
  obtain ⟨f0, f1, f2, f3⟩ := c0.cells
  have hsz := Lib.hid c0.lt
  have h0 : LeastS w w1.heap.size s s (w1.alloc (.cells (cells4 s) 24)) := by
    have q1 : Below w.heap.size w w1 := ((Below.refl _ _).alloc (Nat.le_refl _) _).trans (hb.mono (by simp))
    exact ⟨q1.alloc q1.size _, ((HD.out.alloc _).below hb).alloc _, c0.alloc _, Blk.new _ _ _⟩
  have H0 := Lib.hid h0
  have HL : Hid (Left s s 0 (-1)) := ⟨fun c hc => by have : (-1 : Int) < c := by omega
                                                     simp [this], by omega⟩
  have k1 := cntS_le s
  clear h0 c0 hb
  go_wp2_with fail
  go_loopw [4, 5, 6] (fun l n i wr => ∃ (k : Nat) (last : Int) (t : BitVec 256), i = .int .i64 k ∧ n = .int .i64 k ∧ l = .int .i64 last ∧ -1 ≤ last ∧ last ≤ 255 ∧ Left s t k last ∧ LeastS w w1.heap.size s t wr) (fun _ _ i _ => 257 - (intOf i).toNat)
  case atStart => exact ⟨0, -1, s, rfl, rfl, rfl, by omega, by omega, HL.out, H0.out⟩
  case round =>
    clear f0 f1 f2 f3
    obtain ⟨k, last, t, rfl, rfl, rfl, hl1, hl2, hleft, hS⟩ := hrel
    have hk : k ≤ 256 := by have := hleft.2; omega
    have hk2 : (k : Int) < 257 := by omega
    have hcell := hS.blk.cells
    have hcell0 := hS.blk0.cells
    rcases least_or t with hz | ⟨m, hm⟩
    · subst hz
      have hc0 : cntS 0#256 = 0 := by decide +kernel
      have hck : cntS s = k := by have := hleft.2; omega
      have HCK := Lib.hid hck
      have HS := Lib.hid hS
      have HC0 := Lib.hid hc0
      clear hleft hck hS hc0
      go_wp2_with fail
      rw [show Value.agg #[.int .u64 (wd 0#256 0), .int .u64 (wd 0#256 1), .int .u64 (wd 0#256 2), .int .u64 (wd 0#256 3)] = cls 0#256 from rfl]
      refine (least_no _).mono ?_; rintro e w2 ⟨rfl, hb2⟩
      have hS2 := HS.out.later hb2
      have g1 := hS2.blk0.cells
      have g2 := hS2.blk.cells
      clear hcell hcell0
      go_wp2_with fail
      refine (count_any s _).mono ?_; rintro e w3 ⟨rfl, hb3⟩
      have hS3 := hS2.later hb3
      have g1' := hS3.blk0.cells
      have g2' := hS3.blk.cells
      rw [HCK.out]
      clear g1 g2
      go_wp2_with fail
      rw [show Value.agg #[.int .u64 (wd 0#256 0), .int .u64 (wd 0#256 1), .int .u64 (wd 0#256 2), .int .u64 (wd 0#256 3)] = cls 0#256 from rfl]
      refine (count_any 0#256 _).mono ?_; rintro e w4 ⟨rfl, hb4⟩
      have hS4 := hS3.later hb4
      rw [HC0.out]
      go_wp2
      go_ret
      exact ⟨rfl, hS4.below⟩
    · obtain ⟨hlt, hhas, hnext⟩ := hleft.step hm
      have hml := hm.lt
      have hm0 : (0 : Int) ≤ (m : Int) := by omega
      have hm1 : (m : Int) ≤ 255 := by omega
      have HS := Lib.hid hS
      have HN := Lib.hid hnext
      have HM := Lib.hid hm
      have HH := Lib.hid hhas
      clear hleft hS hnext hm hhas
      go_wp2_with fail
      refine (least_any t m HM.out _ HS.out.deb).mono ?_; rintro e w2 ⟨rfl, hb2⟩
      have hS2 := HS.out.later hb2
      have g1 := hS2.blk0.cells
      have g2 := hS2.blk.cells
      clear hcell hcell0
      have hge : ¬ ((m : Int) ≤ last) := by omega
      go_wp2_with fail
      refine (has_any s m hml _).mono ?_; rintro e w3 ⟨rfl, hb3⟩
      have hS3 := hS2.later hb3
      rw [HH.out]
      clear g1 g2
      go_upto_region 15 with (fail)
      refine wp_region_stable_last (S := (LeastS w w1.heap.size s t)) (hSt := fun _ _ h hb => h.later hb) (plan := [[(3, none)], [(7, none)], [(7, none)], [(38, some 1), (39, some 2)], [(40, some 3)], [(37, some 0), (41, some 4)]]) rfl (by kernel_rfl) (by kernel_rfl) (by kernel_rfl) (by kernel_rfl) ?hS ?_
      rotate_left
      simp only [List.dropLast]
      iterate 6 first
        | (refine chain_skip (by rfl) (by rfl) ?_)
        | (apply chain_want (by rfl)
           · intro a wx hS hr
             simp at hr
             have h1 := hS.blk.cells
             go_simp
             first
               | exact Done.same (v := cls _)
               | ((with_reducible refine (of_any m m hml hml _).mono ?_); rintro e w' ⟨rfl, hb⟩; exact Done.mk hb)
               | ((with_reducible refine (not_any _ _).mono ?_); rintro e w' ⟨rfl, hb⟩; exact Done.mk hb)
               | ((with_reducible refine (both_any _ _ _).mono ?_); rintro e w' ⟨rfl, hb⟩; exact Done.mk hb)
               | exact Done.same
          )
      show ∀ w', _ → _
      intro wz hz
      simp [Act.put]
      case hS => exact hS3
      have h1 := hz.blk.cells
      have h2 := hz.blk.frozen
      have hset := hz.set hsz.out hg.out (t &&& ~~~rowB m m)
      have HSET := Lib.hid hset
      clear hset hz
      simp only [cls]
      go_wp2
      go_roundw
      case rel => exact ⟨k + 1, m, _, by go_num, by go_num, rfl, by omega, by omega, HN.out, HSET.out⟩
      case measure => simp [intOf]; omega
end Go.Proofs.YtmnebddgbkkajaaDoor
