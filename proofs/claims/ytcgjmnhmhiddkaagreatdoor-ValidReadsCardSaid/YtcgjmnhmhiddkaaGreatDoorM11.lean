/- The document's Form, and Same: walked. -/
import Derived.Test.YtcgjmnhmhiddkaaGreatDoorM10
namespace Go.Proofs.YtcgjmnhmhiddkaaGreatDoor
open Go Go.RowKit
set_option linter.unusedVariables false
set_option linter.unusedSimpArgs false
structure RsS (w0 : World) (A B : Option Addr) (a b : List Nd) (c1 c2 : Nat) (w : World) : Prop where
  bel : Below w0.heap.size w0 w
  ra : NRow w A a
  rb : NRow w B b
  ba : Blk w w0.heap.size #[.slice A a.length c1] 25
  bb : Blk w (w0.heap.size + 1) #[.slice B b.length c2] 25
theorem RsS.later {w0 w w' : World} {A B : Option Addr} {a b : List Nd} {c1 c2 : Nat} (h : RsS w0 A B a b c1 c2 w) (hb : Below w.heap.size w w') : RsS w0 A B a b c1 c2 w' :=
  ⟨h.bel.trans (hb.mono h.bel.size), h.ra.later hb, h.rb.later hb, h.ba.later hb, h.bb.later hb⟩
theorem RsS.new (w : World) (A B : Option Addr) (a b : List Nd) (c1 c2 : Nat) (ha : NRow w A a) (hb : NRow w B b) : RsS w A B a b c1 c2 ((w.alloc (.cells #[.slice A a.length c1] 25)).alloc (.cells #[.slice B b.length c2] 25)) := by
  have HB := ((Below.refl w.heap.size w).alloc (Nat.le_refl _) (.cells #[.slice A a.length c1] 25)).alloc (by simp) (.cells #[.slice B b.length c2] 25)
  refine ⟨HB, ha.later HB, hb.later HB, (Blk.new w _ _).alloc _, ?_⟩
  have := Blk.new (w.alloc (.cells #[.slice A a.length c1] 25)) #[.slice B b.length c2] 25
  simpa using this
def RsL (w0 : World) (A B : Option Addr) (a b : List Nd) (c1 c2 : Nat) (i : Value) (w : World) : Prop := ∃ k : Nat, k ≤ a.length ∧ i = .int .i64 (k : Int) ∧ likeN a b k = true ∧ RsS w0 A B a b c1 c2 w
set_option maxHeartbeats 8000000 in
set_option maxRecDepth 100000 in
theorem refnsame_any (a b : List Nd) (A B : Option Addr) (c1 c2 : Nat) (w : World) (ha : NRow w A a) (hb : NRow w B b) (h1 : a.length ≤ 1073741824) (h2 : b.length ≤ 1073741824) :
    Calls Tryz.prog 10 #[.agg #[.slice A a.length c1], .agg #[.slice B b.length c2]] w (Ans w (.bool (decide (a = b)))) := by
  have HE := Lib.hid (RsS.new w A B a b c1 c2 ha hb)
  clear ha hb
  by_cases hl : a.length = b.length
  · have hlz : ((a.length : Int) != (b.length : Int)) = false := by rw [bne_eq_false_iff_eq]; omega
    have HA := Lib.hid (likeN_all hl)
    have HL := Lib.hid hl
    obtain ⟨v, hv⟩ : ∃ v, decide (a = b) = v := ⟨_, rfl⟩
    have HV := Lib.hid hv
    rw [hv]
    clear hl hv
    go_enter Tryz.func10, Tryz.ntmps10
    go_upto_region 1 with (fail)
    generalize (w.alloc (.cells #[.slice A a.length c1] 25)).alloc (.cells #[.slice B b.length c2] 25) = w1 at *
    have e0 := HE.out.ba.cell 0
    have e1 := HE.out.bb.cell 0
    simp at e0 e1
    go_wp2
    clear e0 e1
    go_loopw [5] (RsL w A B a b c1 c2) (fun i _ => a.length - (intOf i).toNat)
    case atStart => exact ⟨0, Nat.zero_le _, rfl, rfl, HE.out⟩
    case round =>
      obtain ⟨k, hk, rfl, hlk, hs⟩ := hrel
      have HLK := Lib.hid hlk
      have HS := Lib.hid hs
      have e0 := hs.ba.cell 0
      have e1 := hs.bb.cell 0
      simp at e0 e1
      by_cases hlt : k < a.length
      · have hltz : (k : Int) < (a.length : Int) := by omega
        have hkb : k < b.length := by rw [← HL.out]; exact hlt
        have hkbz : (k : Int) < (b.length : Int) := by omega
        obtain ⟨ba, oa, rfl, -, -⟩ := hs.ra k hlt
        obtain ⟨bb, ob, rfl, -, -⟩ := hs.rb k hkb
        have FA := Lib.hid (fun (w' : World) (h : NRow w' (some ⟨ba, oa, none⟩) a) => h.at hlt rfl)
        have FB := Lib.hid (fun (w' : World) (h : NRow w' (some ⟨bb, ob, none⟩) b) => h.at hkb rfl)
        have HSUC := Lib.hid (likeN_succ a b k)
        clear hs hlk
        generalize a.getD k nd0 = x at *
        generalize b.getD k nd0 = y at *
        go_upto_region 6 with (fail)
        clear e0 e1
        refine wp_region_stable (S := (RsS w (some ⟨ba, oa, none⟩) (some ⟨bb, ob, none⟩) a b c1 c2)) (hSt := fun _ _ h hb => h.later hb) (plan := [[(2, none)], [(20, some 0)], [(5, none)], [(21, some 1), (22, some 2)], [(23, some 3)], [(3, none)], [(25, some 5)], [(5, none)], [(26, some 6), (27, some 7)], [(28, some 8)], [(24, some 4), (29, some 9)]]) (by kernel_rfl) (by kernel_rfl) (by kernel_rfl) ?hS ?_
        rotate_left
        iterate 11 first
          | (refine chain_skip (by rfl) (by rfl) ?_)
          | (apply chain_want (by rfl)
             · intro act wx hS hr
               simp at hr
               have g := FA.out _ hS.ra
               have k := FB.out _ hS.rb
               have e0 := hS.ba.cell 0
               have e1 := hS.bb.cell 0
               simp at e0 e1
               have hq := fun w => neq_nd x y w
               have hg := fun o1 o2 w => eqGuard_neq_nd o1 o2 x y w
               unfold At10 at g k
               go_simp
               (try go_ints)
               first
                 | exact Done.same (v := .agg (ndC x))
                 | exact Done.same (v := .agg (ndC y))
                 | exact Done.same
            )
        show ∀ w', _ → _
        intro wz hz
        simp [Act.put]
        case hS => exact HS.out
        have HZ := Lib.hid hz
        clear hz
        by_cases hxy : x = y
        · have hd : decide (x = y) = true := decide_eq_true hxy
          rw [hd] at HSUC ⊢
          have HN : Hid (likeN a b (k + 1) = true) := by unfold Hid; rw [HSUC.out, HLK.out]; rfl
          clear hxy hd
          go_wp2
          go_roundw
          case rel => exact ⟨k + 1, by omega, by go_num, HN.out, HZ.out⟩
          case measure => simp [intOf]; omega
        · have hd : decide (x = y) = false := decide_eq_false hxy
          have HF : Hid (v = false) := by
            unfold Hid; rw [← HV.out, ← HA.out]
            have hle : likeN a b (k + 1) = false := by rw [HSUC.out, hd]; simp
            unfold likeN at hle ⊢
            rw [List.all_eq_false] at hle ⊢
            obtain ⟨i, hi, h2⟩ := hle
            exact ⟨i, List.mem_range.2 (by have := List.mem_range.1 hi; omega), h2⟩
          rw [hd]
          clear hxy hd
          go_wp2
          go_ret
          exact ⟨by rw [HF.out]; rfl, HZ.out.bel⟩
      · obtain rfl : k = a.length := by omega
        have HF : Hid (v = true) := by unfold Hid; rw [← HV.out, ← HA.out]; exact hlk
        clear hs hlk
        go_wp2
        go_ret
        exact ⟨by rw [HF.out]; rfl, HS.out.bel⟩
  · have hlz : ((a.length : Int) != (b.length : Int)) = true := by rw [bne_iff_ne]; omega
    have hv : decide (a = b) = false := by rw [decide_eq_false_iff_not]; rintro rfl; exact hl rfl
    rw [hv]
    clear hl hv
    go_enter Tryz.func10, Tryz.ntmps10
    go_upto_region 1 with (fail)
    generalize (w.alloc (.cells #[.slice A a.length c1] 25)).alloc (.cells #[.slice B b.length c2] 25) = w1 at *
    have e0 := HE.out.ba.cell 0
    have e1 := HE.out.bb.cell 0
    simp at e0 e1
    go_wp2
    go_ret
    exact ⟨rfl, HE.out.bel⟩
end Go.Proofs.YtcgjmnhmhiddkaaGreatDoor
