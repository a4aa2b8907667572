/- Same of tokens: walked. -/
import Derived.Test.YtgehepiphdphjaaDoorTokEq
import Derived.Test.YtgehepiphdphjaaDoorStable
namespace Go.Proofs.YtgehepiphdphjaaDoor
open Go Go.RowKit
set_option linter.unusedVariables false

/-- Alike so far. -/
def likeT (a b : List Tok) (k : Nat) : Bool := (List.range k).all fun i => decide (a.getD i tok0 = b.getD i tok0)
theorem likeT_succ (a b : List Tok) (k : Nat) : likeT a b (k + 1) = (likeT a b k && decide (a.getD k tok0 = b.getD k tok0)) := by
  unfold likeT; rw [List.range_succ, List.all_append]; simp
theorem likeT_all {a b : List Tok} (h : a.length = b.length) : likeT a b a.length = decide (a = b) := by
  unfold likeT
  rw [Bool.eq_iff_iff, List.all_eq_true, decide_eq_true_iff]
  constructor
  · intro hx
    apply List.ext_getElem h
    intro i h1 h2
    have := hx i (List.mem_range.2 h1)
    simpa [h1, h2] using this
  · rintro rfl i _; simp
structure EqT (w0 : World) (A B : Option Addr) (a b : List Tok) (w : World) : Prop where
  bel : Below w0.heap.size w0 w
  ra : TRow w A a
  rb : TRow w B b
theorem EqT.later {w0 w w' : World} {A B : Option Addr} {a b : List Tok} (h : EqT w0 A B a b w) (hb : Below w.heap.size w w') : EqT w0 A B a b w' := ⟨h.bel.trans (hb.mono h.bel.size), h.ra.later hb, h.rb.later hb⟩
def EqL (w0 : World) (A B : Option Addr) (a b : List Tok) (i : Value) (w : World) : Prop := ∃ k : Nat, k ≤ a.length ∧ i = .int .i64 (k : Int) ∧ likeT a b k = true ∧ EqT w0 A B a b w
def At9 (w : World) (b o : Nat) (x : Tok) : Prop := w.cell? ⟨b, o, none⟩ = some (.int .i64 (x.kind : Int)) ∧ w.cell? ⟨b, o + 1, none⟩ = some (.int .i64 (x.at_ : Int)) ∧ w.cell? ⟨b, o + 2, none⟩ = some (.int .u64 (wd x.cls 0)) ∧ w.cell? ⟨b, o + 3, none⟩ = some (.int .u64 (wd x.cls 1)) ∧
  w.cell? ⟨b, o + 4, none⟩ = some (.int .u64 (wd x.cls 2)) ∧ w.cell? ⟨b, o + 5, none⟩ = some (.int .u64 (wd x.cls 3)) ∧ w.cell? ⟨b, o + 6, none⟩ = some (.string (bs x.text)) ∧ w.cell? ⟨b, o + 7, none⟩ = some (.int .i64 (x.lo : Int)) ∧ w.cell? ⟨b, o + 8, none⟩ = some (.int .i64 (x.hi : Int))
theorem TRow.at {w : World} {A : Option Addr} {a : List Tok} (h : TRow w A a) {i : Nat} (hi : i < a.length) {b o : Nat} (hA : A = some ⟨b, o, none⟩) : At9 w b (o + i * 9) (a.getD i tok0) := by
  obtain ⟨b', o', h1, _, h2⟩ := h i hi
  rw [hA] at h1; cases h1
  exact ⟨h2 0 (by omega), h2 1 (by omega), h2 2 (by omega), h2 3 (by omega), h2 4 (by omega), h2 5 (by omega), h2 6 (by omega), h2 7 (by omega), h2 8 (by omega)⟩
set_option maxHeartbeats 8000000 in
set_option maxRecDepth 100000 in
theorem seq_any (a b : List Tok) (A B : Option Addr) (c1 c2 : Nat) (w : World) (ha : TRow w A a) (hb : TRow w B b) (h1 : a.length ≤ 1073741824) (h2 : b.length ≤ 1073741824) :
    Calls Tryd.prog 52 #[.slice A a.length c1, .slice B b.length c2] w (Ans w (.bool (decide (a = b)))) := by
  have HE : Hid (EqT w A B a b w) := ⟨Below.refl _ _, ha, hb⟩
  clear ha hb
  by_cases hl : a.length = b.length
  · have hlz : ((a.length : Int) != (b.length : Int)) = false := by rw [bne_eq_false_iff_eq]; omega
    have HA := Lib.hid (likeT_all hl)
    have HL := Lib.hid hl
    obtain ⟨v, hv⟩ : ∃ v, decide (a = b) = v := ⟨_, rfl⟩
    have HV := Lib.hid hv
    rw [hv]
    clear hl hv
    go_enter Tryd.func52, Tryd.ntmps52
    go_wp2
    go_loopw [13] (EqL w A B a b) (fun i _ => a.length - (intOf i).toNat)
    case atStart => exact ⟨0, Nat.zero_le _, rfl, rfl, HE.out⟩
    case round =>
      obtain ⟨k, hk, rfl, hlk, hs⟩ := hrel
      have HLK := Lib.hid hlk
      have HS := Lib.hid hs
      by_cases hlt : k < a.length
      · have hltz : (k : Int) < (a.length : Int) := by omega
        have hkb : k < b.length := by rw [← HL.out]; exact hlt
        have hkbz : (k : Int) < (b.length : Int) := by omega
        obtain ⟨ba, oa, rfl, _, _⟩ := hs.ra k hlt
        obtain ⟨bb, ob, rfl, _, _⟩ := hs.rb k hkb
        have FA := Lib.hid (fun (w' : World) (h : TRow w' (some ⟨ba, oa, none⟩) a) => h.at hlt rfl)
        have FB := Lib.hid (fun (w' : World) (h : TRow w' (some ⟨bb, ob, none⟩) b) => h.at hkb rfl)
        have HSUC := Lib.hid (likeT_succ a b k)
        clear hs hlk
        generalize a.getD k tok0 = x at *
        generalize b.getD k tok0 = y at *
        go_upto_region 6 with (fail)
        refine wp_region_stable (S := (EqT w (some ⟨ba, oa, none⟩) (some ⟨bb, ob, none⟩) a b)) (hSt := fun _ _ h hb => h.later hb) (plan := [[(0, none)], [(5, none)], [(16, some 0), (17, some 1)], [(18, some 2)], [(1, none)], [(5, none)], [(20, some 4), (21, some 5)], [(22, some 6)], [(19, some 3), (23, some 7)]]) (by kernel_rfl) (by kernel_rfl) (by kernel_rfl) ?hS ?_
        rotate_left
        iterate 9 first
          | (refine chain_skip (by rfl) (by rfl) ?_)
          | (apply chain_want (by rfl)
             · intro act wx hS hr
               simp at hr
               have g := FA.out _ hS.ra
               have k := FB.out _ hS.rb
               have hq := fun w => neq_tok x y w
               have hg := fun o1 o2 w => eqGuard_neq_tok o1 o2 x y w
               unfold At9 at g k
               go_simp
               (try go_ints)
               first
                 | exact Done.same (v := .agg (tokC x))
                 | exact Done.same (v := .agg (tokC y))
                 | exact Done.same
            )
        show ∀ w', _ → _
        intro wz hz
        simp [Act.put]
        case hS => exact HS.out
        have HZ := Lib.hid hz
        clear hz
        by_cases hxy : x = y
        · have hd : decide (x = y) = true := decide_eq_true hxy
          rw [hd] at HSUC ⊢
          have HN : Hid (likeT a b (k + 1) = true) := by unfold Hid; rw [HSUC.out, HLK.out]; rfl
          clear hxy hd
          go_wp2
          go_roundw
          case rel => exact ⟨k + 1, by omega, by go_num, HN.out, HZ.out⟩
          case measure => simp [intOf]; omega
        · have hd : decide (x = y) = false := decide_eq_false hxy
          have HF : Hid (v = false) := by
            unfold Hid; rw [← HV.out, ← HA.out]
            have hle : likeT a b (k + 1) = false := by rw [HSUC.out, hd]; simp
            unfold likeT at hle ⊢
            rw [List.all_eq_false] at hle ⊢
            obtain ⟨i, hi, h2⟩ := hle
            exact ⟨i, List.mem_range.2 (by have := List.mem_range.1 hi; omega), h2⟩
          rw [hd]
          clear hxy hd
          go_wp2
          go_ret
          exact ⟨by rw [HF.out]; rfl, HZ.out.bel⟩
      · obtain rfl : k = a.length := by omega
        have HF : Hid (v = true) := by unfold Hid; rw [← HV.out, ← HA.out]; exact hlk
        clear hs hlk
        go_wp2
        go_ret
        exact ⟨by rw [HF.out]; rfl, HS.out.bel⟩
  · have hlz : ((a.length : Int) != (b.length : Int)) = true := by rw [bne_iff_ne]; omega
    have hv : decide (a = b) = false := by rw [decide_eq_false_iff_not]; rintro rfl; exact hl rfl
    rw [hv]
    clear hl hv
    go_enter Tryd.func52, Tryd.ntmps52
    go_wp2
    go_ret
    exact ⟨rfl, HE.out.bel⟩
set_option maxHeartbeats 2000000 in
theorem same_any (a b : List Tok) (A B : Option Addr) (c1 c2 : Nat) (w : World) (ha : TRow w A a) (hb : TRow w B b) (h1 : a.length ≤ 1073741824) (h2 : b.length ≤ 1073741824) :
    Calls Tryd.prog 25 #[.slice A a.length c1, .slice B b.length c2] w (Ans w (.bool (decide (a = b)))) := by
  have HA := Lib.hid ha
  have HB := Lib.hid hb
  clear ha hb
  go_enter Tryd.func25, Tryd.ntmps25
  go_wp2_with (refine (seq_any a b A B c1 c2 _ HA.out HB.out h1 h2).mono ?_; rintro e w' ⟨rfl, hb⟩; have HX := Lib.hid hb; clear hb)
  go_ret
  exact ⟨rfl, HX.out⟩
end Go.Proofs.YtgehepiphdphjaaDoor
