/- Text, Deep: walked, whole. -/
import Derived.Test.YtcgjmnhmhiddkaaGreatDoorM40
import Derived.Test.YtcgjmnhmhiddkaaGreatDoorM36
import Derived.Test.YtcgjmnhmhiddkaaGreatDoorM21
import Derived.Test.YtcgjmnhmhiddkaaGreatDoorM08
namespace Go.Proofs.YtcgjmnhmhiddkaaGreatDoor
open Go Go.RowKit
set_option linter.unusedVariables false
set_option linter.unusedSimpArgs false
set_option maxRecDepth 100000

theorem T10.lt {w : World} (h : T10 w) : 3 < w.heap.size := by
  unfold T10 Lib.TabIs World.var? at h
  rw [show Tryz.prog.globalNamed "internal/strconv.uint64pow10" = some 3 by kernel_rfl] at h
  simp only [Option.bind_some] at h
  rcases Nat.lt_or_ge 3 w.heap.size with h' | h'
  · exact h'
  · rw [Array.getElem?_eq_none h'] at h; cases h
theorem row_low {l : List Nd} {A : Option Addr} {w : World} (h : NRow w A l) (hp : 0 < l.length) : ∀ b o, A = some ⟨b, o, none⟩ → b < w.heap.size := fun b o e => by
  obtain ⟨b', o', h1, h2, _⟩ := h 0 hp
  rw [e] at h1; cases h1; exact h2
set_option maxHeartbeats 8000000 in
theorem ptext_any (l : List Nd) (hp : PrOk l) (A : Option Addr) (c : Nat) (w : World) (hrow : NRow w A l) (hT : T10 w) :
    Calls Tryz.prog 15 #[.agg #[.slice A l.length c]] w (Ans w (.string (bs (textN l)))) := by
  obtain ⟨F, hrun⟩ := hp.run
  obtain ⟨hl1, hl2⟩ := hp.lens
  have hb1 := (Below.refl w.heap.size w).alloc (Nat.le_refl _) (.cells #[.slice A l.length c] 25)
  have hb2 := hb1.alloc hb1.size (.cells #[.pointer none, .slice none 0 0] 67)
  have hS : TxS w.heap.size (w.heap.size + 1) [] ((w.alloc (.cells #[.slice A l.length c] 25)).alloc (.cells #[.pointer none, .slice none 0 0] 67)) := by
    refine .inl ⟨Nat.le_succ _, .slice none 0 0, ?_, ⟨rfl, .inl ⟨rfl, rfl⟩⟩, by simp [Value.ownBlock]⟩
    exact (show Blk ((w.alloc (.cells #[.slice A l.length c] 25)).alloc (.cells #[.pointer none, .slice none 0 0] 67)) (w.heap.size + 1) #[.pointer none, .slice none 0 0] 67 from Blk.new' (by simp) _ _)
  have CE := Lib.hid (each_any l A c w.heap.size _ _ _ (text_sayer w.heap.size (w.heap.size + 1)) hp.form hp.len hp.te F (sgsL l) hrun hl1 hl2 _ hb2.size (row_low hrow hp.form.1) hT.lt (hrow.later hb2) (hT.later hb2) hS)
  have HB2 := Lib.hid hb2
  have HTX : Hid (bs (sgsL l).flatten = bs (textN l)) := rfl
  clear hb1 hb2 hS hrun hl1 hl2 hrow hT hp
  generalize textN l = v at *
  generalize sgsL l = tot at *
  go_enter Tryz.func15, Tryz.ntmps15
  go_upto_region 2 with (fail)
  go_wp2_with fail
  refine CE.out.mono ?_; rintro e w3 ⟨rfl, hs3, hb3⟩
  have HB3 := Lib.hid (HB2.out.trans hb3)
  have CS := Lib.hid (Any.Builder_String_any_k laysString (extra_of rfl rfl) w.heap.size (w.heap.size + 1) tot.flatten w3 hs3 HB3.out.size)
  clear hs3 hb3 CE HB2
  go_wp2_with fail
  refine CS.out.mono ?_; rintro e w4 ⟨rfl, -, hb4, -⟩
  have HB4 := Lib.hid (HB3.out.trans hb4)
  clear hb4 CS
  go_wp2
  go_ret
  exact ⟨by rw [← HTX.out]; rfl, HB4.out⟩
set_option maxHeartbeats 8000000 in
theorem pdeep_any (l : List Nd) (hp : PrOk l) (A : Option Addr) (c : Nat) (w : World) (hrow : NRow w A l) (hT : T10 w) :
    Calls Tryz.prog 14 #[.agg #[.slice A l.length c]] w (Ans w (.int .i64 ((deepN l : Nat) : Int))) := by
  obtain ⟨F, hrun⟩ := hp.run
  obtain ⟨hl1, hl2⟩ := hp.lens
  have hdp : (sgsL l).foldl dstep (0, 0) = (0, (deepN l : Int)) := deep_pieces l
  have hb1 := (Below.refl w.heap.size w).alloc (Nat.le_refl _) (.cells #[.slice A l.length c] 25)
  have hb2 := hb1.alloc hb1.size (.cells #[.int .i64 0] 3)
  have hb3 := hb2.alloc hb2.size (.cells #[.int .i64 0] 3)
  have hS : DpS w.heap.size (w.heap.size + 1) (w.heap.size + 1 + 1) [] (((w.alloc (.cells #[.slice A l.length c] 25)).alloc (.cells #[.int .i64 0] 3)).alloc (.cells #[.int .i64 0] 3)) :=
    ⟨by omega, by omega, by omega, (show Blk ((w.alloc (.cells #[.slice A l.length c] 25)).alloc (.cells #[.int .i64 0] 3)) (w.heap.size + 1) #[.int .i64 0] 3 from Blk.new' (by simp) _ _).alloc _, (show Blk (((w.alloc (.cells #[.slice A l.length c] 25)).alloc (.cells #[.int .i64 0] 3)).alloc (.cells #[.int .i64 0] 3)) (w.heap.size + 1 + 1) #[.int .i64 0] 3 from Blk.new' (by simp) _ _)⟩
  have CE := Lib.hid (each_any l A c w.heap.size _ _ _ (deep_sayer w.heap.size (w.heap.size + 1) (w.heap.size + 1 + 1)) hp.form hp.len hp.te F (sgsL l) hrun hl1 hl2 _ hb3.size (row_low hrow hp.form.1) hT.lt (hrow.later hb3) (hT.later hb3) hS)
  have HB3 := Lib.hid hb3
  have HDP := Lib.hid hdp
  clear hb1 hb2 hb3 hS hrun hl1 hl2 hrow hT hp hdp
  generalize deepN l = v at *
  generalize sgsL l = tot at *
  go_enter Tryz.func14, Tryz.ntmps14
  go_upto_region 2 with (fail)
  go_wp2_with fail
  refine CE.out.mono ?_; rintro e w4 ⟨rfl, ⟨-, -, -, -, k2⟩, hb4⟩
  have HB4 := Lib.hid (HB3.out.trans hb4)
  rw [HDP.out] at k2
  have c2 := k2.cell 0
  simp at c2
  clear hb4 CE k2
  go_wp2
  go_ret
  exact ⟨rfl, HB4.out⟩
end Go.Proofs.YtcgjmnhmhiddkaaGreatDoor
/- Descriptions that have their form, and aren't long; what the document's calls make of them. -/
namespace Go.Proofs.YtcgjmnhmhiddkaaGreatDoor
open Go Go.RowKit
set_option linter.unusedVariables false
set_option linter.unusedSimpArgs false

end Go.Proofs.YtcgjmnhmhiddkaaGreatDoor
/- How deep descriptions built of others are: plain mathematics. -/
namespace Go.Proofs.YtcgjmnhmhiddkaaGreatDoor
open Go
set_option linter.unusedVariables false
set_option linter.unusedSimpArgs false

end Go.Proofs.YtcgjmnhmhiddkaaGreatDoor
/- The anchor of layer 6. -/
namespace Go.Proofs.YtcgjmnhmhiddkaaGreatDoor
open Go Go.RowKit
set_option linter.unusedVariables false
set_option linter.unusedSimpArgs false
set_option maxRecDepth 100000

theorem IsD.ptext {l : List Nd} {v : Value} {w : World} (h : IsD l v w) (hp : PrOk l) (hT : T10 w) : Calls Tryz.prog 15 #[v] w (Ans w (.string (bs (textN l)))) := by
  obtain ⟨A, c, hc, rfl, hr⟩ := h
  exact ptext_any l hp A c w hr hT
theorem IsD.pdeep {l : List Nd} {v : Value} {w : World} (h : IsD l v w) (hp : PrOk l) (hT : T10 w) {x : Nat} (hx : deepN l = x) : Calls Tryz.prog 14 #[v] w (Ans w (.int .i64 (x : Int))) := by
  obtain ⟨A, c, hc, rfl, hr⟩ := h
  subst hx
  exact pdeep_any l hp A c w hr hT
end Go.Proofs.YtcgjmnhmhiddkaaGreatDoor
