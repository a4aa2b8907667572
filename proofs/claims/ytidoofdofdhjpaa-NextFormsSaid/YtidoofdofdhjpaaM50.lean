/- The anchor of layer 7. -/
import Derived.Test.YtidoofdofdhjpaaM30
import Derived.Test.YtidoofdofdhjpaaM31
import Derived.Test.YtidoofdofdhjpaaM49
import Derived.Test.YtidoofdofdhjpaaM41
import Derived.Test.YtidoofdofdhjpaaM48
namespace Go.Proofs.Ytidoofdofdhjpaa
open Go Go.RowKit
set_option linter.unusedVariables false
set_option linter.unusedSimpArgs false

theorem sm_one {n : Nd} (h : okN [n] 0 n) (hk : leafK n.kind) (ht : n.text.length ≤ 281474976710656) : Sm [n] := by
  refine ⟨⟨by simp, fun i hi => ?_, ?_⟩, by simp, fun m hm => ?_⟩
  · obtain rfl : i = 0 := by simpa using hi
    exact h
  · show firstP [n] 0 = 0
    have := firstP_le [n] 0; omega
  · rw [List.mem_singleton.1 hm]; exact ht
/-- A description in a box. -/
structure Dx (b : Nat) (A : Option Addr) (l : List Nd) (n c : Nat) (w : World) : Prop where
  cap : l.length ≤ c
  len : l.length = n
  box : Blk w b #[.slice A n c] 24
  row : NRow w A l
theorem Dx.later {b : Nat} {A : Option Addr} {l : List Nd} {n c : Nat} {w w' : World} (h : Dx b A l n c w) (hb : Below w.heap.size w w') : Dx b A l n c w' := ⟨h.cap, h.len, h.box.later hb, h.row.later hb⟩
theorem Dx.isD {b : Nat} {A : Option Addr} {l : List Nd} {n c : Nat} {w : World} (h : Dx b A l n c w) : IsD l (.agg #[.slice A n c]) w := ⟨A, c, h.cap, by rw [h.len], h.row⟩
theorem Dx.load {b : Nat} {A : Option Addr} {l : List Nd} {n c : Nat} {w : World} (h : Dx b A l n c w) : w.cell? ⟨b, 0, none⟩ = some (.slice A n c) := by
  have := h.box.cell 0; simpa using this
theorem nrow_one {n : Nd} {b : Nat} {w : World} (h : Blk w b (ndC n) 58) : NRow w (some ⟨b, 0, none⟩) [n] := fun i hi => by
  obtain rfl : i = 0 := by simpa using hi
  exact ⟨b, 0, rfl, h.lt, fun j _ => by rw [h.cell]; simp⟩
theorem dx_one (n : Nd) (w : World) {cs : Array Value} (hc : ndC n = cs) : Dx (w.heap.size + 1) (some ⟨w.heap.size, 0, none⟩) [n] 1 1 ((w.alloc (.cells cs 58)).alloc (.cells #[.slice (some ⟨w.heap.size, 0, none⟩) 1 1] 24)) ∧ Below w.heap.size w ((w.alloc (.cells cs 58)).alloc (.cells #[.slice (some ⟨w.heap.size, 0, none⟩) 1 1] 24)) := by
  subst hc
  exact ⟨⟨by simp, rfl, Blk.new' (by simp) _ _, nrow_one ((Blk.new w _ _).alloc _)⟩, ((Below.refl w.heap.size w).alloc (Nat.le_refl _) _).alloc (by simp) _⟩
theorem dx_of {l : List Nd} {w : World} {A : Option Addr} {n c : Nat} (hr : NRow w A l) (hl : l.length = n) (hc : n ≤ c) : Dx w.heap.size A l n c (w.alloc (.cells #[.slice A n c] 24)) :=
  ⟨by omega, hl, Blk.new w _ _, hr.later ((Below.refl w.heap.size w).alloc (Nat.le_refl _) _)⟩
end Go.Proofs.Ytidoofdofdhjpaa
/- The anchor of layer 8. -/
namespace Go.Proofs.Ytidoofdofdhjpaa
open Go Go.RowKit
set_option linter.unusedVariables false
set_option linter.unusedSimpArgs false
set_option maxRecDepth 100000

end Go.Proofs.Ytidoofdofdhjpaa
/- What the statements of next share: branches known; the anchor's mathematics; a start. -/
namespace Go.Proofs.Ytidoofdofdhjpaa
open Go Go.RowKit
set_option linter.unusedVariables false
set_option linter.unusedSimpArgs false
set_option maxRecDepth 100000
set_option maxHeartbeats 16000000

theorem brs_known {T : Brs} {n : Nat} {w w' : World} {e : Ending} (hn : n ≤ 1000) (h : BrsP T n w e w') : ∃ v, e = .returned v ∧ BrV T v w' ∧ Below w.heap.size w w' := by
  obtain ⟨v, D, rfl, h1, h2, h3, h4⟩ := h
  obtain ⟨A, cap, rfl, -, hr⟩ := h2.row
  exact ⟨_, rfl, ⟨A, cap, D, rfl, h1, hr, fun d hd => ⟨(own_it (h3 d hd).1).1, Nat.le_trans (h3 d hd).2 hn⟩, fun d hd => (own_it (h3 d hd).1).2⟩, h4⟩
/-- A state without items and a bool. -/
def NeV (b : Bool) (v : Value) (w : World) : Prop := ∃ A c, v = .tuple #[.slice A 0 c, .bool b]
theorem NeV.later (b : Bool) (v : Value) (w w' : World) (h : NeV b v w) (hb : Below w.heap.size w w') : NeV b v w' := h
def NlV (n : Nat) (v : Value) (w : World) : Prop := ∃ A c, v = .slice A n c
theorem NlV.later (n : Nat) (v : Value) (w w' : World) (h : NlV n v w) (hb : Below w.heap.size w w') : NlV n v w' := h
theorem rd_none {o : Option (List Itm)} {w w' : World} {e : Ending} (ho : o = none ∨ o = some []) (h : NrdP o w e w') : ∃ v, e = .returned v ∧ NeV o.isSome v w' ∧ Below w.heap.size w w' := by
  obtain ⟨v, rfl, hb, h1, h2⟩ := h
  rcases ho with rfl | rfl
  · rw [h2 rfl]; exact ⟨_, rfl, ⟨none, 0, rfl⟩, hb⟩
  · obtain ⟨A, c, rfl, -, -⟩ := (h1 [] rfl).row
    exact ⟨_, rfl, ⟨A, c, rfl⟩, hb⟩
theorem cls_known {L : List (BitVec 256)} {w w' : World} {e : Ending} (h : ClsP L w e w') : ∃ v, e = .returned v ∧ IsRow L v w' ∧ Below w.heap.size w w' := by
  obtain ⟨v, rfl, h1, h2⟩ := h
  exact ⟨v, rfl, h1.isRow, h2⟩
def nwBn : Nd := { kind := 2, cls := rowB 5 6 }
def nwB : List Nd := [nwBn]
def nwO : List Nd := pairL 5 nwB nwB
def nwF : List Nd := wrapL 8 0 0 nwB
theorem nwB_sm : Sm nwB := sm_one ⟨rfl, .inr (.inl rfl)⟩ (.inr (.inl rfl)) (by decide)
theorem nwO_form : Form nwO := pair_form nwB_sm.form nwB_sm.form (.inr rfl)
theorem nwF_sm : Sm nwF := nwB_sm.wrap (by decide) (.inr (.inl rfl))
theorem nw_rgt {l : List Nd} (hF : Form l) (h : (fstW l).2 = false) : Rgt l := by
  refine (rgB_iff l).1 ?_
  unfold rgB
  rw [(formB_iff l).2 hF, h]; rfl
theorem nwB_rgt : Rgt nwB := nw_rgt nwB_sm.form (by decide)
theorem nwO_rgt : Rgt nwO := nw_rgt nwO_form (by decide)
theorem nwF_rgt : Rgt nwF := nw_rgt nwF_sm.form (by decide)
theorem nwB_txt : Txt nwB := fun n hn => by
  rw [List.mem_singleton.1 hn]; decide
theorem nwO_txt : Txt nwO := fun n hn => by
  have : n.text = [] := by
    unfold nwO pairL nwB nwBn at hn; simp at hn; rcases hn with rfl | rfl | rfl <;> rfl
  rw [this]; simp
theorem nwF_txt : Txt nwF := fun n hn => by
  have : n.text = [] := by
    unfold nwF wrapL nwB nwBn at hn; simp at hn; rcases hn with rfl | rfl <;> rfl
  rw [this]; simp
theorem nw_o : brsL (onL nwO (stL nwO) 5) = [([], 2)] := by decide +kernel
theorem nw_f : brsL (onL nwF (stL nwF) 7) = [([⟨1, 0, 0, 0⟩, ⟨5, 0, 7, 0⟩], 1)] := by decide +kernel
theorem nw_r6 : rdS nwB (stL nwB) 6 = some [] := by decide +kernel
theorem nw_r7 : rdS nwB (stL nwB) 7 = none := by decide +kernel
theorem nw_rs : rdS nwB [⟨1, 0, 0, 0⟩, ⟨5, 0, 0, 0⟩] 5 = none := by decide +kernel
theorem nw_e0 : mnyB (hdsL nwB []) [] = 1 := by decide +kernel
theorem nw_es : mnyB (hdsL nwB (stL nwB)) [] = 0 := by decide +kernel
theorem nw_cb : (hcL nwB (hdsL nwB (stL nwB))).length = 1 := by decide +kernel
theorem nw_cf : (hcL nwF (hdsL nwF (stL nwF))).length = 256 := by decide +kernel
theorem nw_rdy : rdyS nwB (stL nwB) = true := by decide +kernel
theorem nw_rdy2 : rdyS nwB [⟨1, 0, 0, 0⟩, ⟨5, 0, 0, 0⟩] = true := by decide +kernel
theorem nw_form : ∀ y ∈ [(⟨1, 0, 0, 0⟩ : Itm), ⟨5, 0, 0, 0⟩], HdF nwB y := stF_form (by decide +kernel)
/-- A start. -/
theorem start15_any (l : List Nd) (A : Option Addr) (c : Nat) (hl : l.length ≤ 1073741824) (w : World) :
    Calls Try.prog 21 #[.agg #[.slice A l.length c]] w (fun e w' => ∃ v, e = .returned v ∧ StV (stL l) v w' ∧ Below w.heap.size w w') := by
  have hb1 := (Below.refl w.heap.size w).alloc (Nat.le_refl _) (.cells #[.slice A l.length c] 24)
  have HK := Lib.hid (Blk.new w #[.slice A l.length c] 24)
  have HB := Lib.hid hb1
  clear hb1
  go_enter Try.func21, Try.ntmps21
  go_upto_region 1 with (fail)
  generalize w.alloc (.cells #[.slice A l.length c] 24) = w1 at *
  have e0 := HK.out.cell 0
  simp at e0
  have hbb := (Below.refl w1.heap.size w1).alloc (Nat.le_refl _) (.cells (itV ⟨1, (l.length : Int) - 1, 0, 0⟩) 44)
  have HN := Lib.hid (ItRow.one (p := ⟨1, (l.length : Int) - 1, 0, 0⟩) (Blk.new w1 (itV ⟨1, (l.length : Int) - 1, 0, 0⟩) 44))
  have HB2 := Lib.hid (HB.out.trans (hbb.mono HB.out.size))
  clear hbb
  go_wp2
  go_ret
  exact ⟨_, rfl, ⟨_, 1, rfl, by unfold stL; simp, HN.out⟩, HB2.out⟩
end Go.Proofs.Ytidoofdofdhjpaa
/- The anchor of layer 14. -/
namespace Go.Proofs.Ytidoofdofdhjpaa
open Go Go.RowKit
set_option linter.unusedVariables false
set_option linter.unusedSimpArgs false
set_option maxRecDepth 100000

theorem one_br {D : List HdE} {s : List Itm} {m : Nat} (h : D.map brS = [(s, m)]) : ∃ A1 c1, D = [⟨s, A1, c1, m⟩] := by
  match D, h with
  | [⟨a, A1, c1, x⟩], h =>
    simp [brS] at h
    obtain ⟨rfl, rfl⟩ := h
    exact ⟨A1, c1, rfl⟩
theorem br_cell {w : World} {b off : Nat} {D : List HdE} (h : BrRow w (some ⟨b, off, none⟩) D) (i : Nat) (d : HdE) (hi : D[i]? = some d) : w.cell? ⟨b, off + i * 2, none⟩ = some (.slice d.A d.s.length d.cap) ∧ w.cell? ⟨b, off + i * 2 + 1, none⟩ = some (.int .i64 (d.many : Int)) := by
  obtain ⟨hlt, he⟩ := List.getElem?_eq_some_iff.1 hi
  obtain ⟨b', off', ha, -, hc⟩ := h i hlt
  cases ha
  have hd : D.getD i hd0 = d := by rw [List.getD_eq_getElem?_getD, hi]; rfl
  rw [hd] at hc
  exact ⟨hc 0 (by decide), hc 1 (by decide)⟩
end Go.Proofs.Ytidoofdofdhjpaa
