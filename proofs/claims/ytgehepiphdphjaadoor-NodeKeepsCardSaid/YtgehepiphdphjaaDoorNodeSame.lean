/- Same of nodes: walked. -/
import Derived.Test.YtgehepiphdphjaaDoorNodeEq
import Derived.Test.YtgehepiphdphjaaDoorStable
namespace Go.Proofs.YtgehepiphdphjaaDoor
open Go Go.RowKit
set_option linter.unusedVariables false

/-- Alike so far. -/
def likeN (a b : List Nd) (k : Nat) : Bool := (List.range k).all fun i => decide (a.getD i nd0 = b.getD i nd0)
theorem likeN_succ (a b : List Nd) (k : Nat) : likeN a b (k + 1) = (likeN a b k && decide (a.getD k nd0 = b.getD k nd0)) := by
  unfold likeN; rw [List.range_succ, List.all_append]; simp
theorem likeN_all {a b : List Nd} (h : a.length = b.length) : likeN a b a.length = decide (a = b) := by
  unfold likeN
  rw [Bool.eq_iff_iff, List.all_eq_true, decide_eq_true_iff]
  constructor
  · intro hx
    apply List.ext_getElem h
    intro i h1 h2
    have := hx i (List.mem_range.2 h1)
    simpa [h1, h2] using this
  · rintro rfl i _; simp
structure EqN (w0 : World) (A B : Option Addr) (a b : List Nd) (w : World) : Prop where
  bel : Below w0.heap.size w0 w
  ra : NRow w A a
  rb : NRow w B b
theorem EqN.later {w0 w w' : World} {A B : Option Addr} {a b : List Nd} (h : EqN w0 A B a b w) (hb : Below w.heap.size w w') : EqN w0 A B a b w' := ⟨h.bel.trans (hb.mono h.bel.size), h.ra.later hb, h.rb.later hb⟩
def EqLN (w0 : World) (A B : Option Addr) (a b : List Nd) (i : Value) (w : World) : Prop := ∃ k : Nat, k ≤ a.length ∧ i = .int .i64 (k : Int) ∧ likeN a b k = true ∧ EqN w0 A B a b w
def At10 (w : World) (b o : Nat) (x : Nd) : Prop := w.cell? ⟨b, o, none⟩ = some (.int .i64 x.kind) ∧ w.cell? ⟨b, o + 1, none⟩ = some (.int .i64 x.a) ∧ w.cell? ⟨b, o + 2, none⟩ = some (.int .i64 x.b) ∧ w.cell? ⟨b, o + 3, none⟩ = some (.int .i64 x.lo) ∧ w.cell? ⟨b, o + 4, none⟩ = some (.int .i64 x.hi) ∧ w.cell? ⟨b, o + 5, none⟩ = some (.int .u64 (wd x.cls 0)) ∧ w.cell? ⟨b, o + 6, none⟩ = some (.int .u64 (wd x.cls 1)) ∧ w.cell? ⟨b, o + 7, none⟩ = some (.int .u64 (wd x.cls 2)) ∧ w.cell? ⟨b, o + 8, none⟩ = some (.int .u64 (wd x.cls 3)) ∧ w.cell? ⟨b, o + 9, none⟩ = some (.string (bs x.text))
theorem NRow.at {w : World} {A : Option Addr} {a : List Nd} (h : NRow w A a) {i : Nat} (hi : i < a.length) {b o : Nat} (hA : A = some ⟨b, o, none⟩) : At10 w b (o + i * 10) (a.getD i nd0) := by
  obtain ⟨b', o', h1, _, h2⟩ := h i hi
  rw [hA] at h1; cases h1
  exact ⟨h2 0 (by omega), h2 1 (by omega), h2 2 (by omega), h2 3 (by omega), h2 4 (by omega), h2 5 (by omega), h2 6 (by omega), h2 7 (by omega), h2 8 (by omega), h2 9 (by omega)⟩
set_option maxHeartbeats 8000000 in
set_option maxRecDepth 100000 in
theorem nseq_any (a b : List Nd) (A B : Option Addr) (c1 c2 : Nat) (w : World) (ha : NRow w A a) (hb : NRow w B b) (h1 : a.length ≤ 1073741824) (h2 : b.length ≤ 1073741824) :
    Calls Tryd.prog 57 #[.slice A a.length c1, .slice B b.length c2] w (Ans w (.bool (decide (a = b)))) := by
  have HE : Hid (EqN w A B a b w) := ⟨Below.refl _ _, ha, hb⟩
  clear ha hb
  by_cases hl : a.length = b.length
  · have hlz : ((a.length : Int) != (b.length : Int)) = false := by rw [bne_eq_false_iff_eq]; omega
    have HA := Lib.hid (likeN_all hl)
    have HL := Lib.hid hl
    obtain ⟨v, hv⟩ : ∃ v, decide (a = b) = v := ⟨_, rfl⟩
    have HV := Lib.hid hv
    rw [hv]
    clear hl hv
    go_enter Tryd.func57, Tryd.ntmps57
    go_wp2
    go_loopw [13] (EqLN w A B a b) (fun i _ => a.length - (intOf i).toNat)
    case atStart => exact ⟨0, Nat.zero_le _, rfl, rfl, HE.out⟩
    case round =>
      obtain ⟨k, hk, rfl, hlk, hs⟩ := hrel
      have HLK := Lib.hid hlk
      have HS := Lib.hid hs
      by_cases hlt : k < a.length
      · have hltz : (k : Int) < (a.length : Int) := by omega
        have hkb : k < b.length := by rw [← HL.out]; exact hlt
        have hkbz : (k : Int) < (b.length : Int) := by omega
        obtain ⟨ba, oa, rfl, _, _⟩ := hs.ra k hlt
        obtain ⟨bb, ob, rfl, _, _⟩ := hs.rb k hkb
        have FA := Lib.hid (fun (w' : World) (h : NRow w' (some ⟨ba, oa, none⟩) a) => h.at hlt rfl)
        have FB := Lib.hid (fun (w' : World) (h : NRow w' (some ⟨bb, ob, none⟩) b) => h.at hkb rfl)
        have HSUC := Lib.hid (likeN_succ a b k)
        clear hs hlk
        generalize a.getD k nd0 = x at *
        generalize b.getD k nd0 = y at *
        go_upto_region 6 with (fail)
        refine wp_region_stable (S := (EqN w (some ⟨ba, oa, none⟩) (some ⟨bb, ob, none⟩) a b)) (hSt := fun _ _ h hb => h.later hb) (plan := [[(0, none)], [(5, none)], [(16, some 0), (17, some 1)], [(18, some 2)], [(1, none)], [(5, none)], [(20, some 4), (21, some 5)], [(22, some 6)], [(19, some 3), (23, some 7)]]) (by kernel_rfl) (by kernel_rfl) (by kernel_rfl) ?hS ?_
        rotate_left
        iterate 9 first
          | (refine chain_skip (by rfl) (by rfl) ?_)
          | (apply chain_want (by rfl)
             · intro act wx hS hr
               simp at hr
               have g := FA.out _ hS.ra
               have k := FB.out _ hS.rb
               have hq := fun w => neq_nd x y w
               have hg := fun o1 o2 w => eqGuard_neq_nd o1 o2 x y w
               unfold At10 at g k
               go_simp
               (try go_ints)
               first
                 | exact Done.same (v := .agg (ndC x))
                 | exact Done.same (v := .agg (ndC y))
                 | exact Done.same
            )
        show ∀ w', _ → _
        intro wz hz
        simp [Act.put]
        case hS => exact HS.out
        have HZ := Lib.hid hz
        clear hz
        by_cases hxy : x = y
        · have hd : decide (x = y) = true := decide_eq_true hxy
          rw [hd] at HSUC ⊢
          have HN : Hid (likeN a b (k + 1) = true) := by unfold Hid; rw [HSUC.out, HLK.out]; rfl
          clear hxy hd
          go_wp2
          go_roundw
          case rel => exact ⟨k + 1, by omega, by go_num, HN.out, HZ.out⟩
          case measure => simp [intOf]; omega
        · have hd : decide (x = y) = false := decide_eq_false hxy
          have HF : Hid (v = false) := by
            unfold Hid; rw [← HV.out, ← HA.out]
            have hle : likeN a b (k + 1) = false := by rw [HSUC.out, hd]; simp
            unfold likeN at hle ⊢
            rw [List.all_eq_false] at hle ⊢
            obtain ⟨i, hi, h2⟩ := hle
            exact ⟨i, List.mem_range.2 (by have := List.mem_range.1 hi; omega), h2⟩
          rw [hd]
          clear hxy hd
          go_wp2
          go_ret
          exact ⟨by rw [HF.out]; rfl, HZ.out.bel⟩
      · obtain rfl : k = a.length := by omega
        have HF : Hid (v = true) := by unfold Hid; rw [← HV.out, ← HA.out]; exact hlk
        clear hs hlk
        go_wp2
        go_ret
        exact ⟨by rw [HF.out]; rfl, HS.out.bel⟩
  · have hlz : ((a.length : Int) != (b.length : Int)) = true := by rw [bne_iff_ne]; omega
    have hv : decide (a = b) = false := by rw [decide_eq_false_iff_not]; rintro rfl; exact hl rfl
    rw [hv]
    clear hl hv
    go_enter Tryd.func57, Tryd.ntmps57
    go_wp2
    go_ret
    exact ⟨rfl, HE.out.bel⟩
end Go.Proofs.YtgehepiphdphjaaDoor
