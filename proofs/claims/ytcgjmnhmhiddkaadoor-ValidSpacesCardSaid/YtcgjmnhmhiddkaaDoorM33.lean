/- The document's sizes: walked. -/
import Derived.Test.YtcgjmnhmhiddkaaDoorM32
import Derived.Test.YtcgjmnhmhiddkaaDoorM23
namespace Go.Proofs.YtcgjmnhmhiddkaaDoor
open Go Go.RowKit
set_option linter.unusedVariables false
set_option linter.unusedSimpArgs false

end Go.Proofs.YtcgjmnhmhiddkaaDoor
/- Sizes: what the laws call, of descriptions wherever they stand. -/
namespace Go.Proofs.YtcgjmnhmhiddkaaDoor
open Go Go.RowKit
set_option linter.unusedVariables false
set_option linter.unusedSimpArgs false

/-- A description that has its form, and isn't long. -/
structure Sm (l : List Nd) : Prop where
  form : Form l
  len : l.length ≤ 4096
  txt : Txt l
theorem Form.at_ {l : List Nd} (h : Form l) {n : Nd} (hn : n ∈ l) : ∃ i, i < l.length ∧ atN l i = n := by
  obtain ⟨i, hi, rfl⟩ := List.mem_iff_getElem.1 hn
  exact ⟨i, hi, by unfold atN; rw [List.getD_eq_getElem?_getD, List.getElem?_eq_getElem hi]; rfl⟩
theorem okN.ndOk {l : List Nd} {i : Nat} {n : Nd} (h : okN l i n) (ht : n.text.length ≤ 281474976710656) : NdOk n := by
  obtain ⟨hb, hk⟩ := h
  have hh : n.hi = 0 ∨ (0 ≤ n.hi ∧ n.hi ≤ 255) := by
    rcases hk with hk | hk | ⟨hk, _⟩ | ⟨hk, _⟩ | ⟨hk, _, h1, h2, h3⟩ | ⟨hk, _⟩
    · left; rw [← hb]; unfold backN; rw [if_pos hk]
    · left; rw [← hb]; unfold backN; rw [if_neg (by omega), if_pos hk]
    · left; rw [← hb]; unfold backN; rw [if_neg (by omega), if_neg (by omega), if_pos hk]
    · left; rw [← hb]; unfold backN; rw [if_neg (by omega), if_neg (by omega), if_neg (by omega), if_pos hk]
    · right; omega
    · left; rw [← hb]; unfold backN; rw [if_neg (by omega), if_neg (by omega), if_neg (by omega), if_neg (by omega), if_neg (by omega), if_pos hk]
  exact ⟨by omega, by omega, ht⟩
theorem Sm.ok {l : List Nd} (h : Sm l) : ∀ n ∈ l, NdOk n := fun n hn => by
  obtain ⟨i, hi, rfl⟩ := h.form.at_ hn
  exact (h.form.2.1 i hi).ndOk (txt_at h.txt i)
theorem Txt.snoc {l : List Nd} (h : Txt l) {n : Nd} (hn : n.text = []) : Txt (l ++ [n]) := fun m hm => by
  rcases List.mem_append.1 hm with h1 | h1
  · exact h m h1
  · rw [List.mem_singleton.1 h1, hn]; simp
theorem Sm.wrap {l : List Nd} (h : Sm l) (hl : l.length ≤ 999) {kind : Int} (hk : kind = 6 ∨ kind = 8 ∨ kind = 9) : Sm (wrapL kind 0 0 l) :=
  ⟨wrap_form h.form hk ⟨rfl, rfl⟩, by unfold wrapL; rw [List.length_append]; simp; omega, by unfold wrapL; exact h.txt.snoc rfl⟩
theorem Sm.rep {l : List Nd} (h : Sm l) (hl : l.length ≤ 999) {lo hi : Int} (h1 : 0 ≤ lo) (h2 : lo ≤ hi) (h3 : hi ≤ 255) : Sm (wrapL 7 lo hi l) :=
  ⟨wrap_form7 h.form h1 h2 h3, by unfold wrapL; rw [List.length_append]; simp; omega, by unfold wrapL; exact h.txt.snoc rfl⟩
end Go.Proofs.YtcgjmnhmhiddkaaDoor
/- Ways of nothing of one node, the first that isn't right, right: walked. -/
namespace Go.Proofs.YtcgjmnhmhiddkaaDoor
open Go Go.RowKit
set_option linter.unusedVariables false
set_option linter.unusedSimpArgs false
set_option maxRecDepth 100000

def FiL (w0 : World) (A : Option Addr) (l : List Nd) (aw : Option Addr) (x : Value) (w : World) : Prop := ∃ k : Nat, k ≤ l.length ∧ x = .int .i64 (k : Int) ∧ (∀ j, j < k → badW l j = false) ∧ NRow w A l ∧ IRow w aw (natI (wys l l.length)) ∧ Below w0.heap.size w0 w
/-- The first that isn't right, as it is answered. -/
def fstV (l : List Nd) : Value := .tuple #[.int .i64 ((fstW l).1 : Int), .bool (fstW l).2]
set_option maxHeartbeats 16000000 in
theorem nfirst_any (l : List Nd) (A : Option Addr) (c : Nat) (hlen : l.length ≤ 536870912) (hok : ∀ n ∈ l, IntOk n) (w : World) (hrow : NRow w A l) :
    Calls Tryd.prog 14 #[.agg #[.slice A l.length c]] w (Ans w (fstV l)) := by
  have HB := (Below.refl w.heap.size w).alloc (Nat.le_refl _) (.cells #[.slice A l.length c] 25)
  have HS0 : Hid (FstS w A l c (w.alloc (.cells #[.slice A l.length c] 25))) := ⟨HB, hrow.later HB, Blk.new _ _ _⟩
  have HT : Hid (∀ w', NRow w' A l → Calls Tryd.prog 18 #[.slice A l.length c] w' (ToPost w' (wys l l.length) l.length)) := fun w' h => told_any l A c hlen hok w' h
  have hlz : (l.length : Int) ≤ 536870912 := by omega
  clear hrow HB hok
  go_enter Tryd.func14, Tryd.ntmps14
  go_upto_region 1 with (fail)
  generalize w.alloc (.cells #[.slice A l.length c] 25) = w1 at *
  have e0 := HS0.out.box.cell 0
  simp at e0
  go_wp2_with fail
  refine (HT.out _ HS0.out.row).mono ?_; rintro e w2 ⟨aw, cw, rfl, hr, hb⟩
  have HS2 := Lib.hid (HS0.out.later hb)
  have HI2 := Lib.hid hr
  clear hr hb HT HS0 e0
  have e0 := HS2.out.box.cell 0
  simp at e0
  go_wp2
  clear e0
  have HL : Hid (FiL w A l aw (.int .i64 0) w2) := ⟨0, Nat.zero_le _, rfl, fun j hj => absurd hj (Nat.not_lt_zero j), HS2.out.row, HI2.out, HS2.out.bel⟩
  clear HS2 HI2
  go_loopw [13] (FiL w A l aw) (fun x _ => l.length - (intOf x).toNat)
  case atStart => exact HL.out
  case round =>
    obtain ⟨k, hk, rfl, hall, hrow, hir, hbel⟩ := hrel
    have HALL := Lib.hid hall
    have HR := Lib.hid hrow
    have HI := Lib.hid hir
    have HB := Lib.hid hbel
    clear hall hrow hir hbel HL
    by_cases hlt : k < l.length
    · have hltz : (k : Int) < (l.length : Int) := by omega
      obtain ⟨ba, oa, hAe, -, -⟩ := HR.out k hlt
      subst hAe
      have g : At10 wr ba (oa + k * 10) (l.getD k nd0) := HR.out.at hlt rfl
      obtain ⟨n, hn⟩ : ∃ n, l.getD k nd0 = n := ⟨_, rfl⟩
      have HAT : Hid (atN l k = n) := hn
      rw [hn] at g
      clear hn
      have hb2 := (Below.refl wr.heap.size wr).alloc (Nat.le_refl _) (.cells (ndC n) 35)
      have HR2 := Lib.hid (HR.out.later hb2)
      have HI2 := Lib.hid (HI.out.later hb2)
      have HB2 := Lib.hid (HB.out.trans (hb2.mono HB.out.size))
      have HX2 := Lib.hid (Blk.new wr (ndC n) 35)
      clear hb2 HR HI HB
      obtain ⟨kk, na, nb, nlo, nhi, ncls, ntext⟩ := n
      unfold At10 at g
      simp only at g
      obtain ⟨g0, g1, g2, g3, g4, g5, g6, g7, g8, g9⟩ := g
      unfold ndC at HR2 HI2 HB2 HX2
      simp only at HR2 HI2 HB2 HX2
      go_upto_region 5 with (fail)
      clear g0 g1 g2 g3 g4 g5 g6 g7 g8 g9
      generalize wr.alloc (.cells #[.int .i64 kk, .int .i64 na, .int .i64 nb, .int .i64 nlo, .int .i64 nhi, .int .u64 (wd ncls 0), .int .u64 (wd ncls 1), .int .u64 (wd ncls 2), .int .u64 (wd ncls 3), .string (bs ntext)] 35) = w3 at *
      generalize wr.heap.size = bx at *
      have gg := HX2.out
      obtain ⟨g0, g1, g2, g3, g4, g5, g6, g7, g8, g9⟩ := ten_cells gg
      clear gg HX2
      by_cases h6 : kk = 6
      · subst h6
        have HP : Hid (Calls Tryd.prog 19 #[.slice aw l.length cw, .int .i64 na] w3 (Pure w3 (.int .i64 ((partS (wys l l.length) na : Nat) : Int)))) := by
          have q := npart_any (wys l l.length) na aw cw w3 HI2.out
          rw [wys_length] at q; exact q
        by_cases hz : partS (wys l l.length) na = 0
        · have HBD : Hid (badW l k = false) := by unfold Hid badW; rw [HAT.out, decide_eq_false_iff_not]; exact fun h => h.2 hz
          rw [hz] at HP
          clear hz
          go_wp2_with fail
          refine HP.out.mono ?_; rintro e w4 ⟨rfl, rfl⟩
          clear g0 g1 g2 g3 g4 g5 g6 g7 g8 g9
          have HNX : Hid (badW l k = false) := HBD.out
          go_wp2
          go_roundw
          case rel => exact ⟨k + 1, by omega, by go_num, fun j hj => (by rcases Nat.lt_or_ge j k with h | h; exact HALL.out j h; rw [show j = k by omega]; exact HNX.out), HR2.out, HI2.out, HB2.out⟩
          case measure => simp [intOf]; omega
        · have HBD : Hid (badW l k = true) := by unfold Hid badW; rw [HAT.out, decide_eq_true_iff]; exact ⟨.inl rfl, hz⟩
          have HF : Hid (fstV l = .tuple #[.int .i64 (k : Int), .bool true]) := by unfold Hid fstV; rw [fstW_some (by omega) HBD.out HALL.out]
          have hp0 : ((partS (wys l l.length) na : Nat) : Int) ≠ 0 := by omega
          generalize partS (wys l l.length) na = p at *
          have hpz : ((p : Int) != 0) = true := by rw [bne_iff_ne]; exact hp0
          clear hz hp0
          go_wp2_with fail
          refine HP.out.mono ?_; rintro e w4 ⟨rfl, rfl⟩
          clear g0 g1 g2 g3 g4 g5 g6 g7 g8 g9
          go_wp2
          go_ret2
          exact ⟨by rw [HF.out]; rfl, HB2.out⟩
      · by_cases h7 : kk = 7
        · subst h7
          clear h6
          have HP : Hid (Calls Tryd.prog 19 #[.slice aw l.length cw, .int .i64 na] w3 (Pure w3 (.int .i64 ((partS (wys l l.length) na : Nat) : Int)))) := by
            have q := npart_any (wys l l.length) na aw cw w3 HI2.out
            rw [wys_length] at q; exact q
          by_cases hz : partS (wys l l.length) na = 0
          · have HBD : Hid (badW l k = false) := by unfold Hid badW; rw [HAT.out, decide_eq_false_iff_not]; exact fun h => h.2 hz
            rw [hz] at HP
            clear hz
            go_wp2_with fail
            refine HP.out.mono ?_; rintro e w4 ⟨rfl, rfl⟩
            clear g0 g1 g2 g3 g4 g5 g6 g7 g8 g9
            have HNX : Hid (badW l k = false) := HBD.out
            go_wp2
            go_roundw
            case rel => exact ⟨k + 1, by omega, by go_num, fun j hj => (by rcases Nat.lt_or_ge j k with h | h; exact HALL.out j h; rw [show j = k by omega]; exact HNX.out), HR2.out, HI2.out, HB2.out⟩
            case measure => simp [intOf]; omega
          · have HBD : Hid (badW l k = true) := by unfold Hid badW; rw [HAT.out, decide_eq_true_iff]; exact ⟨.inr rfl, hz⟩
            have HF : Hid (fstV l = .tuple #[.int .i64 (k : Int), .bool true]) := by unfold Hid fstV; rw [fstW_some (by omega) HBD.out HALL.out]
            have hp0 : ((partS (wys l l.length) na : Nat) : Int) ≠ 0 := by omega
            generalize partS (wys l l.length) na = p at *
            have hpz : ((p : Int) != 0) = true := by rw [bne_iff_ne]; exact hp0
            clear hz hp0
            go_wp2_with fail
            refine HP.out.mono ?_; rintro e w4 ⟨rfl, rfl⟩
            clear g0 g1 g2 g3 g4 g5 g6 g7 g8 g9
            go_wp2
            go_ret2
            exact ⟨by rw [HF.out]; rfl, HB2.out⟩
        · have hk6 : (kk == 6) = false := beq_false_of_ne h6
          have hk7 : (kk == 7) = false := beq_false_of_ne h7
          have HBD : Hid (badW l k = false) := by
            unfold Hid badW; rw [HAT.out, decide_eq_false_iff_not]
            rintro ⟨h | h, _⟩
            · exact h6 h
            · exact h7 h
          clear h6 h7
          have HNX : Hid (badW l k = false) := HBD.out
          go_wp2
          go_roundw
          case rel => exact ⟨k + 1, by omega, by go_num, fun j hj => (by rcases Nat.lt_or_ge j k with h | h; exact HALL.out j h; rw [show j = k by omega]; exact HNX.out), HR2.out, HI2.out, HB2.out⟩
          case measure => simp [intOf]; omega
    · obtain rfl : k = l.length := by omega
      have hlast : ¬ ((l.length : Nat) : Int) < (l.length : Int) := by omega
      have HF : Hid (fstV l = .tuple #[.int .i64 0, .bool false]) := by unfold Hid fstV; rw [fstW_none HALL.out]; rfl
      go_wp2
      go_ret2
      exact ⟨by rw [HF.out]; rfl, HB.out⟩
end Go.Proofs.YtcgjmnhmhiddkaaDoor
/- The document's ways of nothing: walked. -/
namespace Go.Proofs.YtcgjmnhmhiddkaaDoor
open Go Go.RowKit
set_option linter.unusedVariables false
set_option linter.unusedSimpArgs false
set_option maxRecDepth 100000

end Go.Proofs.YtcgjmnhmhiddkaaDoor
