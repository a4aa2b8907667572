/- The document's Form, and Same: walked. -/
import Derived.Test.YtidoofdofdhjpaaM16
namespace Go.Proofs.Ytidoofdofdhjpaa
open Go Go.RowKit
set_option linter.unusedVariables false
set_option linter.unusedSimpArgs false
set_option maxHeartbeats 4000000 in
set_option maxRecDepth 100000 in
theorem refform_any (l : List Nd) (A : Option Addr) (c : Nat) (hlen : l.length <= 1073741824) (htx : Txt l) (w : World) (hrow : NRow w A l) :
 Calls Try.prog 27 #[.agg #[.slice A l.length c]] w (Ans w (.bool (formB l))) := by
 have HB := (Below.refl w.heap.size w).alloc (Nat.le_refl _) (.cells #[.slice A l.length c] 24)
 have HS0 : Hid (FstS w A l c (w.alloc (.cells #[.slice A l.length c] 24))) := ⟨HB, hrow.later HB, Blk.new _ _ _⟩
 have HF := Lib.hid (fun w' (h : NRow w' A l) => reffirst_any l A c hlen htx l.length (Nat.le_refl _) w' h)
 have hfr := form_ref l
 obtain ⟨v, hv⟩ : ∃ v, formB l = v := ⟨_, rfl⟩
 have HV : Hid (0 < l.length -> v = decide (refG l l.length = 0)) := fun h0 => by
  rw [<- hv, Bool.eq_iff_iff, formB_iff, decide_eq_true_iff, hfr]
  exact ⟨fun h => h.2, fun h => ⟨h0, h⟩⟩
 have HV0 : Hid (¬ 0 < l.length -> v = false) := fun h0 => by
  rw [<- hv]; exact formB_not (fun h => h0 h.1)
 rw [hv]
 clear hrow HB hfr hv
 go_enter Try.func27, Try.ntmps27
 go_upto_region 1 with (fail)
 generalize w.alloc (.cells #[.slice A l.length c] 24) = w1 at *
 have e0 := HS0.out.box.cell 0
 simp at e0
 by_cases h0 : 0 < l.length
 ·have hz : (l.length : Int) > 0 := by omega
  have HR := Lib.hid (HV.out h0)
  generalize refG l l.length = q at *
  clear h0 HV HV0
  go_wp2_with fail
  refine (HF.out _ HS0.out.row).mono ?_; rintro e w2 ⟨rfl, hb2⟩
  have HS2 := Lib.hid (HS0.out.later hb2)
  clear hb2 e0
  go_wp2
  go_ret
  exact ⟨by rw [HR.out]; first | rfl | (congr 2), HS2.out.bel⟩
 ·have hz : ¬ (l.length : Int) > 0 := by omega
  have HR := Lib.hid (HV0.out h0)
  clear h0 HV HV0
  go_wp2
  go_ret
  exact ⟨by rw [HR.out]; rfl, HS0.out.bel⟩
end Go.Proofs.Ytidoofdofdhjpaa
