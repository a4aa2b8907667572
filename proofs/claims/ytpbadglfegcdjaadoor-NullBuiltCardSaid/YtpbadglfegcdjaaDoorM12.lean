/- Nodes laid where there is room: walked. -/
import Derived.Test.YtpbadglfegcdjaaDoorM10
import Derived.Test.YtpbadglfegcdjaaDoorM11
import Derived.Test.YtpbadglfegcdjaaDoorM04
import Derived.Test.YtpbadglfegcdjaaDoorM06
import Derived.Test.YtpbadglfegcdjaaDoorM08
import Derived.OwnWalk
import Derived.ChangeSame
namespace Go.Proofs.YtpbadglfegcdjaaDoor
open Go Go.RowKit
set_option linter.unusedVariables false
set_option linter.unusedSimpArgs false

theorem wpList_append_nd_fits {w : World} {ops : Array Oper} {rest : List Oper} {o : Oper} {a : Act} {Q : Exit → Act → World → Prop} (hgd : o.guard = none) (s x : Operand)
    (ho : o.op = .call { callee := .builtin .append, args := #[s, x], argTypes := #[22, 22] })
    (base g cap : Nat) (l : List Nd) (hs : a.eval s = .slice (some ⟨g, 0, none⟩) l.length cap) (hown : OwnN w base (.slice (some ⟨g, 0, none⟩) l.length cap) l)
    (b : Nat) (t : Nd) (hx : a.eval x = .slice (some ⟨b, 0, none⟩) 1 1) (hnew : Blk w b (ndC t) 36) (hroom : l.length + 1 ≤ cap)
    (h : ∀ w', OwnN w' base (.slice (some ⟨g, 0, none⟩) (l ++ [t]).length cap) (l ++ [t]) → w.grownBy w' (some g) → wpList Tryd.prog ops Q rest (a.put o.dst (.slice (some ⟨g, 0, none⟩) (l.length + 1) cap)) w') : wpList Tryd.prog ops Q (o :: rest) a w := by
  obtain ⟨ib, hib, hz0, hz1, hz2⟩ := info_parts infoNd
  have hf1 : flat10 [t] = (ndC t).toList := by simp [flat10]
  have hnews : ∀ (j : Nat) (u : Value), (flat10 [t])[j]? = some u → w.cell? ((⟨b, 0, none⟩ : Addr).add j) = some u := by
    intro j u hu
    have hadd : (⟨b, 0, none⟩ : Addr).add j = ⟨b, j, none⟩ := by unfold Addr.add; split <;> simp_all
    rw [hf1] at hu
    rw [hadd, hnew.cell, ← hu]; simp
  have hone : ∀ u ∈ flat10 [t], u.oneCell' = true := by
    intro u hu
    rw [hf1] at hu
    simp only [ndC, List.mem_cons, List.not_mem_nil, or_false] at hu
    rcases hu with rfl | rfl | rfl | rfl | rfl | rfl | rfl | rfl | rfl | rfl <;> rfl
  refine wpList_append_fits w hgd s x 22 ho base 36 ib 10 Tryd.underlying22 hib hz1 g l.length cap (flat10 l) hs hown ⟨b, 0, none⟩ 1 1 (flat10 [t]) hx rfl hnews hone hroom fun w' h2 h3 => h w' ?_ h3
  unfold OwnN
  rw [List.length_append, flat10_append]; exact h2
theorem gb_of {ro : Option Nat} {w w' : World} (h : Below w.heap.size w w') : w.grownBy w' ro := ⟨h.os, h.tape, h.output, h.size, fun k hk _ => h.block k hk⟩
structure LaidF (w0 : World) (g cap : Nat) (A : Option Addr) (m L : List Nd) (w : World) : Prop where
  gb : w0.grownBy w (some g)
  own : OwnN w g (.slice (some ⟨g, 0, none⟩) L.length cap) L
  row : NRow w A m
theorem OwnN.gb {w w' : World} {base g cap : Nat} {L : List Nd} (h : OwnN w base (.slice (some ⟨g, 0, none⟩) L.length cap) L) (hb : Below w.heap.size w w') : OwnN w' base (.slice (some ⟨g, 0, none⟩) L.length cap) L := h.later hb
theorem gb_trans {a b c : World} {ro : Option Nat} (h : a.grownBy b ro) (k : b.grownBy c ro) : a.grownBy c ro :=
  ⟨k.os.trans h.os, k.tape.trans h.tape, k.output.trans h.output, Nat.le_trans h.size k.size, fun j hj hne => (k.block j (Nat.lt_of_lt_of_le hj h.size) hne).trans (h.block j hj hne)⟩
theorem LaidF.later {w0 w w' : World} {g cap : Nat} {A : Option Addr} {m L : List Nd} (h : LaidF w0 g cap A m L w) (hb : Below w.heap.size w w') : LaidF w0 g cap A m L w' :=
  ⟨gb_trans h.gb (gb_of hb), h.own.later hb, h.row.later hb⟩
theorem NRow.gb {w w' : World} {a : Option Addr} {l : List Nd} {g : Nat} (h : NRow w a l) (ha : ∀ b o, a = some ⟨b, o, none⟩ → b ≠ g) (hb : w.grownBy w' (some g)) : NRow w' a l := fun i hi => by
  obtain ⟨b, off, h1, hlt, hc⟩ := h i hi
  exact ⟨b, off, h1, Nat.lt_of_lt_of_le hlt hb.size, fun j hj => (World.cell?_of_block (a := ⟨b, off + i * 10 + j, none⟩) (hb.block b hlt (fun e => ha b off h1 (Option.some.inj e)))).trans (hc j hj)⟩
def LaidFL (w0 : World) (g cap : Nat) (A : Option Addr) (l0 m : List Nd) (d : Int) (lst i : Value) (w : World) : Prop :=
  ∃ k : Nat, k ≤ m.length ∧ i = .int .i64 (k : Int) ∧ lst = .slice (some ⟨g, 0, none⟩) (l0.length + k) cap ∧ LaidF w0 g cap A m (l0 ++ (m.take k).map (mvN d)) w
def LaidFPost (w0 : World) (g cap : Nat) (L : List Nd) (e : Ending) (w' : World) : Prop := e = .returned (.slice (some ⟨g, 0, none⟩) L.length cap) ∧ OwnN w' g (.slice (some ⟨g, 0, none⟩) L.length cap) L ∧ w0.grownBy w' (some g)
end Go.Proofs.YtpbadglfegcdjaaDoor
/- Form, Same, Leaf, Sub: walked. -/
namespace Go.Proofs.YtpbadglfegcdjaaDoor
open Go Go.RowKit
set_option linter.unusedVariables false
set_option linter.unusedSimpArgs false

def Txt (l : List Nd) : Prop := ∀ n ∈ l, n.text.length ≤ 281474976710656
/-- The form, as a bool. -/
def formB (l : List Nd) : Bool := decide (0 < l.length) && ((List.range l.length).all fun i => fmd l i) && decide (firstP l (l.length - 1) = 0)
theorem formB_iff (l : List Nd) : formB l = true ↔ Form l := by
  unfold formB Form fmd
  simp only [Bool.and_eq_true, decide_eq_true_iff, List.all_eq_true, List.mem_range]
  exact ⟨fun ⟨⟨a, b⟩, c⟩ => ⟨a, b, c⟩, fun ⟨a, b, c⟩ => ⟨⟨a, b⟩, c⟩⟩
theorem formB_eq {l : List Nd} (h : Form l) : formB l = true := (formB_iff l).2 h
theorem formB_not {l : List Nd} (h : ¬ Form l) : formB l = false := by
  cases hb : formB l with
  | false => rfl
  | true => exact absurd ((formB_iff l).1 hb) h
def FormL (w0 : World) (A : Option Addr) (l : List Nd) (c : Nat) (i : Value) (w : World) : Prop :=
  ∃ k : Nat, k ≤ l.length ∧ i = .int .i64 (k : Int) ∧ (∀ j, j < k → fmd l j = true) ∧ FmS w0 A l c w
set_option maxHeartbeats 8000000 in
set_option maxRecDepth 100000 in
theorem form_any (l : List Nd) (A : Option Addr) (c : Nat) (hlen : l.length ≤ 1073741824) (htx : Txt l) (w : World) (hrow : NRow w A l) (hT : U8T w) :
    Calls Tryd.prog 19 #[.agg #[.slice A l.length c]] w (Ans w (.bool (formB l))) := by
  have HB := (Below.refl w.heap.size w).alloc (Nat.le_refl _) (.cells #[.slice A l.length c] 24)
  have HS0 : Hid (FmS w A l c (w.alloc (.cells #[.slice A l.length c] 24))) := ⟨⟨HB, hrow.later HB, Blk.new _ _ _⟩, hT.later HB⟩
  have HTX := Lib.hid htx
  clear hrow hT HB htx
  go_enter Tryd.func19, Tryd.ntmps19
  go_upto_region 1 with (fail)
  generalize w.alloc (.cells #[.slice A l.length c] 24) = w1 at *
  have e0 := HS0.out.fst.box.cell 0
  simp at e0
  go_wp2
  clear e0
  go_loopw [8] (FormL w A l c) (fun i _ => l.length - (intOf i).toNat)
  case atStart => exact ⟨0, Nat.zero_le _, rfl, fun j hj => by omega, HS0.out⟩
  case round =>
    obtain ⟨k, hk, rfl, hf, hs⟩ := hrel
    have HS := Lib.hid hs
    have HF := Lib.hid hf
    have e0 := hs.fst.box.cell 0
    simp at e0
    by_cases hlt : k < l.length
    · have hltz : (k : Int) < (l.length : Int) := by omega
      have HC := Lib.hid (fun (w' : World) (h : FmS w A l c w') => formed_any l A c k hlt hlen HTX.out w' h.fst.row h.u8)
      clear hs hf
      cases hq : fmd l k with
      | true =>
        have HF2 : Hid (∀ j, j < k + 1 → fmd l j = true) := fun j hj => by
          by_cases h : j = k
          · rw [h]; exact hq
          · exact HF.out j (by omega)
        rw [hq] at HC
        clear hq
        go_wp2_with fail
        refine (HC.out _ HS.out).mono ?_; rintro e w2 ⟨rfl, hb2⟩
        have HS2 := Lib.hid (HS.out.later hb2)
        clear hb2 e0
        go_wp2
        go_roundw
        case rel => exact ⟨k + 1, by omega, by go_num, HF2.out, HS2.out⟩
        case measure => simp [intOf]; omega
      | false =>
        have HR : Hid (formB l = false) := by
          unfold Hid formB
          have : ((List.range l.length).all fun i => fmd l i) = false := by rw [List.all_eq_false]; exact ⟨k, List.mem_range.2 hlt, by simp [hq]⟩
          rw [this]; simp
        rw [hq] at HC
        clear hq
        go_wp2_with fail
        refine (HC.out _ HS.out).mono ?_; rintro e w2 ⟨rfl, hb2⟩
        have HS2 := Lib.hid (HS.out.later hb2)
        clear hb2 e0
        go_wp2
        go_ret
        exact ⟨by rw [HR.out]; rfl, HS2.out.fst.bel⟩
    · obtain rfl : k = l.length := by omega
      have HALL : Hid (((List.range l.length).all fun i => fmd l i) = true) := by unfold Hid; rw [List.all_eq_true]; intro j hj; exact hf j (List.mem_range.1 hj)
      clear hs hf
      by_cases h0 : l.length = 0
      · have HR : Hid (formB l = false) := by unfold Hid formB; simp [h0]
        have hz : (l.length : Int) = 0 := by omega
        obtain ⟨n0, hn0⟩ : ∃ n0, n0 = l.length := ⟨_, rfl⟩
        rw [← hn0] at h0
        subst h0
        rw [← hn0] at *
        go_wp2
        go_ret
        exact ⟨by rw [HR.out]; rfl, HS.out.fst.bel⟩
      · obtain ⟨n, hn⟩ : ∃ n, l.length = n + 1 := ⟨l.length - 1, by omega⟩
        have hni : (l.length : Int) - 1 = (n : Int) := by omega
        have HR : Hid (formB l = decide ((firstP l n : Int) = 0)) := by
          unfold Hid formB
          rw [HALL.out, hn, Nat.add_sub_cancel]
          simp
        have HC := Lib.hid (fun (w' : World) (h : FmS w A l c w') => first_any l A c n (by omega) w' h.fst.row)
        have HNI := Lib.hid hni
        have hge : (l.length : Int) - 1 ≥ 0 := by omega
        rw [← hni] at HC
        clear hn hni h0
        go_wp2_with fail
        refine (HC.out _ HS.out).mono ?_; rintro e w2 ⟨rfl, hb2⟩
        have HS2 := Lib.hid (HS.out.later hb2)
        clear hb2 e0
        go_wp2
        go_ret
        exact ⟨by rw [HR.out]; rfl, HS2.out.fst.bel⟩
/-- A description's value, and its row. -/
def IsD (l : List Nd) (v : Value) (w : World) : Prop := ∃ A c, l.length ≤ c ∧ v = .agg #[.slice A l.length c] ∧ NRow w A l
theorem IsD.later (l : List Nd) (v : Value) (w w' : World) (h : IsD l v w) (hb : Below w.heap.size w w') : IsD l v w' := by
  obtain ⟨A, c, h1, h2, h3⟩ := h
  exact ⟨A, c, h1, h2, h3.later hb⟩
theorem OwnN.isD {w : World} {base : Nat} {s : Value} {l : List Nd} (h : OwnN w base s l) : IsD l (.agg #[s]) w := by
  obtain ⟨_, ⟨hv, hn⟩ | ⟨g, cap, cur, hv, hb, hg, hc, hm, hs, ht⟩⟩ := h
  · have : l = [] := List.length_eq_zero_iff.1 hn
    subst this
    exact ⟨none, 0, Nat.le_refl _, by rw [hv]; rfl, NRow.nil _ _⟩
  · obtain ⟨A, c, h1, h2⟩ := OwnN.row (w := w) (base := base) (v := s) (l := l) ⟨by assumption, .inr ⟨g, cap, cur, hv, hb, hg, hc, hm, hs, ht⟩⟩
    rw [hv] at h1
    cases h1
    exact ⟨_, cap, hc, by rw [hv], h2⟩
def DPost (w : World) (l : List Nd) (e : Ending) (w' : World) : Prop := ∃ s, e = .returned (.agg #[s]) ∧ OwnN w' w.heap.size s l ∧ Below w.heap.size w w'
theorem OwnN.setCell_ne {w : World} {base : Nat} {s : Value} {l : List Nd} (h : OwnN w base s l) {a : Addr} (ha : a.block < base) (v : Value) : OwnN (w.setCell a v) base s l := by
  obtain ⟨h0, ⟨hv, hn⟩ | ⟨g, cap, cur, hv, hb, hg, hr⟩⟩ := h
  · exact ⟨h0, .inl ⟨hv, hn⟩⟩
  · refine ⟨h0, .inr ⟨g, cap, cur, hv, hb, ?_, hr⟩⟩
    have : Blk w g cur 36 := hg
    exact this.setCell_ne (a := a) (by omega) v
theorem OwnN.weaken {w : World} {base base' : Nat} {s : Value} {l : List Nd} (h : OwnN w base s l) (hb : base' ≤ base) : OwnN w base' s l := by
  obtain ⟨h0, ⟨hv, hn⟩ | ⟨g, cap, cur, hv, hbg, hr⟩⟩ := h
  · exact ⟨h0, .inl ⟨hv, hn⟩⟩
  · exact ⟨h0, .inr ⟨g, cap, cur, hv, Nat.le_trans hb hbg, hr⟩⟩
theorem NRow.part {w : World} {b o : Nat} {l : List Nd} (h : NRow w (some ⟨b, o, none⟩) l) {f k : Nat} (hk : f + k ≤ l.length) : NRow w (some ⟨b, o + f * 10, none⟩) (seg l f k) := fun i hi => by
  rw [seg_length hk] at hi
  obtain ⟨b', o', h1, h2, h3⟩ := h (f + i) (by omega)
  cases h1
  refine ⟨b, o + f * 10, rfl, h2, fun j hj => ?_⟩
  have := h3 j hj
  rw [show (seg l f k).getD i nd0 = l.getD (f + i) nd0 from seg_at hi]
  rw [← this]; congr 2; omega
theorem wrap_in {x : Int} (h1 : -9223372036854775808 ≤ x) (h2 : x ≤ 9223372036854775807) : IntKind.i64.wrap x = x := IntWalk.i64_in _ (by omega)
theorem okN.mvOk {l : List Nd} {i : Nat} (h : okN l i (atN l i)) (hi : i < 1073741824) (ht : (atN l i).text.length ≤ 281474976710656) {d : Int} (h1 : -1073741824 ≤ d) (h2 : d ≤ 1073741824) : MvOk d (atN l i) := by
  have hle := firstP_le l (i - 1)
  refine ⟨ht, fun hp => ?_, fun hk => ?_⟩
  · cases h.cs rfl with
    | leaf hk hf => unfold leafK at hk; unfold partK at hp; omega
    | one hk hi ha => exact wrap_in (by omega) (by omega)
    | two hk hi hb ha => exact wrap_in (by omega) (by omega)
  · cases h.cs rfl with
    | leaf hk2 hf => unfold leafK at hk2; omega
    | one hk2 hi ha => omega
    | two hk hi hb ha => exact wrap_in (by omega) (by omega)
theorem mem_seg {l : List Nd} {f k : Nat} (hk : f + k ≤ l.length) {n : Nd} (h : n ∈ seg l f k) : ∃ j, f ≤ j ∧ j < f + k ∧ n = atN l j := by
  obtain ⟨i, hi, e⟩ := List.mem_iff_getElem.1 h
  rw [seg_length hk] at hi
  refine ⟨f + i, by omega, by omega, ?_⟩
  rw [← seg_at (l := l) (f := f) hi, ← e]
  unfold atN
  rw [List.getD_eq_getElem?_getD, List.getElem?_eq_getElem (by rw [seg_length hk]; exact hi)]; rfl
theorem txt_at {l : List Nd} (h : Txt l) (j : Nat) : (atN l j).text.length ≤ 281474976710656 := by
  unfold atN
  rw [List.getD_eq_getElem?_getD]
  cases hj : l[j]? with
  | none => simp [nd0]
  | some n => exact h n (List.mem_of_getElem? hj)
structure SbS (w0 : World) (A : Option Addr) (l : List Nd) (c : Nat) (w : World) : Prop where
  fst : FstS w0 A l c w
  res : Blk w (w0.heap.size + 1) #[.slice none 0 0] 24
theorem SbS.later {w0 w w' : World} {A : Option Addr} {l : List Nd} {c : Nat} (h : SbS w0 A l c w) (hb : Below w.heap.size w w') : SbS w0 A l c w' := ⟨h.fst.later hb, h.res.later hb⟩
theorem SbS.new (w : World) (A : Option Addr) (l : List Nd) (c : Nat) (h : NRow w A l) : SbS w A l c ((w.alloc (.cells #[.slice A l.length c] 24)).alloc (.cells #[.slice none 0 0] 24)) := by
  have HB := ((Below.refl w.heap.size w).alloc (Nat.le_refl _) (.cells #[.slice A l.length c] 24)).alloc (by simp) (.cells #[.slice none 0 0] 24)
  refine ⟨⟨HB, h.later HB, (Blk.new w _ _).alloc _⟩, ?_⟩
  have := Blk.new (w.alloc (.cells #[.slice A l.length c] 24)) #[.slice none 0 0] 24
  simpa using this
end Go.Proofs.YtpbadglfegcdjaaDoor
/- A description, opened as an argument. -/
namespace Go.Proofs.YtpbadglfegcdjaaDoor
open Go Go.RowKit Go.ChangeShapes Go.WideShapes Go.ChangeAt Go.Joins
set_option maxRecDepth 100000
set_option linter.unusedVariables false
set_option linter.unusedSimpArgs false

section
variable {H : Type} {enc : TypeId × Value → H} {W : World} {base : Nat} {v : Value} {d : DataW H} {p : List MemPlace}
theorem cellsNd : Tryd.prog.cellsOf 36 = 10 := by kernel_rfl
theorem cellsI : Tryd.prog.cellsOf 3 = 1 := by kernel_rfl
theorem cellsS : Tryd.prog.cellsOf 9 = 1 := by kernel_rfl
theorem cellsDesc : Tryd.prog.cellsOf 24 = 1 := by kernel_rfl
theorem cellsNds : Tryd.prog.cellsOf 22 = 1 := by kernel_rfl
theorem node_words {n : Nat} {cs : List Value} {x : DataW H × List MemPlace} (hlen : cs.length = 10) (h : DataW.trod enc Tryd.prog W 0 (fun _ => true) true n 36 cs = some x) :
    ∃ nd : Nd, (∀ j, j < 10 → cs[j]? = (ndC nd)[j]?) ∧ nd.text.length ∈ x.1.weights Tryd.prog 36 := by
  obtain ⟨xs, m, _, rfl, _, hn, hel⟩ := DataW.trod_struct Tryd.underlying36 h
  match cs, hlen with
  | [c0, c1, c2, c3, c4, c5, c6, c7, c8, c9], _ =>
    match xs, hn with
    | [y0, y1, y2, y3, y4, y5, y6], _ =>
      have e0 : DataW.trod enc Tryd.prog W 0 (fun _ => true) true m 3 [c0] = some y0 := by have h := hel 0 _ rfl; simp [cellsI] at h; exact h
      have e1 : DataW.trod enc Tryd.prog W 0 (fun _ => true) true m 3 [c1] = some y1 := by have h := hel 1 _ rfl; simp [cellsI] at h; exact h
      have e2 : DataW.trod enc Tryd.prog W 0 (fun _ => true) true m 3 [c2] = some y2 := by have h := hel 2 _ rfl; simp [cellsI] at h; exact h
      have e3 : DataW.trod enc Tryd.prog W 0 (fun _ => true) true m 3 [c3] = some y3 := by have h := hel 3 _ rfl; simp [cellsI] at h; exact h
      have e4 : DataW.trod enc Tryd.prog W 0 (fun _ => true) true m 3 [c4] = some y4 := by have h := hel 4 _ rfl; simp [cellsI] at h; exact h
      have e5 : DataW.trod enc Tryd.prog W 0 (fun _ => true) true m 34 [c5, c6, c7, c8] = some y5 := by have h := hel 5 _ rfl; simp [cellsCls] at h; exact h
      have e6 : DataW.trod enc Tryd.prog W 0 (fun _ => true) true m 9 [c9] = some y6 := by have h := hel 6 _ rfl; simp [cellsS] at h; exact h
      obtain ⟨a0, h0, _, _⟩ := DataW.trod_int Tryd.underlying3 e0
      obtain ⟨a1, h1, _, _⟩ := DataW.trod_int Tryd.underlying3 e1
      obtain ⟨a2, h2, _, _⟩ := DataW.trod_int Tryd.underlying3 e2
      obtain ⟨a3, h3, _, _⟩ := DataW.trod_int Tryd.underlying3 e3
      obtain ⟨a4, h4, _, _⟩ := DataW.trod_int Tryd.underlying3 e4
      obtain ⟨s, h5⟩ := cls_words rfl e5
      obtain ⟨t, h6, hy6, _⟩ := DataW.trod_string Tryd.underlying9 e6
      simp at h0 h1 h2 h3 h4 h5 h6
      subst h0 h1 h2 h3 h4 h6
      have k0 := h5 0 (by omega)
      have k1 := h5 1 (by omega)
      have k2 := h5 2 (by omega)
      have k3 := h5 3 (by omega)
      simp at k0 k1 k2 k3
      subst k0 k1 k2 k3
      refine ⟨⟨a0, a1, a2, a3, a4, s, t.data.toList⟩, fun j hj => ?_, ?_⟩
      · unfold ndC
        rcases (by omega : j = 0 ∨ j = 1 ∨ j = 2 ∨ j = 3 ∨ j = 4 ∨ j = 5 ∨ j = 6 ∨ j = 7 ∨ j = 8 ∨ j = 9) with rfl | rfl | rfl | rfl | rfl | rfl | rfl | rfl | rfl | rfl <;> first | rfl | (simp; exact (bs_self t).symm)
      · subst hy6
        simp [DataW.weights, DataW.weightsEach, Tryd.underlying36]
theorem mem_weightsAll {P : Program} {e : TypeId} {y : Nat} {a : DataW H} : ∀ {l : List (DataW H)}, a ∈ l → y ∈ a.weights P e → y ∈ DataW.weightsAll P e l
  | [], h, _ => by cases h
  | b :: l, h, hy => by
    unfold DataW.weightsAll
    rcases List.mem_cons.1 h with rfl | h
    · exact List.mem_append_left _ hy
    · exact List.mem_append_right _ (mem_weightsAll h hy)
theorem open_desc (hv : Value.okWide Tryd.prog W .any base 24 v) (h : DataW.Trod enc Tryd.prog W 0 (fun _ => true) true 24 v d p) (hw : ∀ x ∈ d.weights Tryd.prog 24, x ≤ reachBytes) :
    ∃ (l : List Nd) (A : Option Addr) (C : Nat), v = .agg #[.slice A l.length C] ∧ NRow W A l ∧ l.length ≤ C ∧ l.length ≤ 9223372036854775807 ∧ Txt l := by
  obtain ⟨cs, rfl, hsz⟩ := okWide_struct Tryd.underlying24 hv
  rw [cellsDesc] at hsz
  obtain ⟨c, rfl⟩ : ∃ c, cs = #[c] := by
    obtain ⟨l⟩ := cs
    match l, hsz with
    | [c], _ => exact ⟨c, rfl⟩
  obtain ⟨fuel, hf⟩ := h
  obtain ⟨y0, n, hx, _, hy⟩ := trod_struct1 Tryd.underlying24 hf
  simp only [Prod.mk.injEq] at hx
  obtain ⟨rfl, _⟩ := hx
  simp only [cellsNds] at hy
  rcases Go.Deep.open_slice Tryd.underlying22 hy with ⟨hcs, _⟩ | ⟨x, ln, cp, m, n', D, Pl, hcs, hb, hl, hm, hmm, hx, hi⟩
  · simp [Value.cells] at hcs
    subst hcs
    exact ⟨[], none, 0, rfl, NRow.nil _ _, Nat.le_refl _, by simp, fun n hn => by cases hn⟩
  · simp [Value.cells] at hcs
    subst hcs
    simp only [if_true] at hmm
    subst hmm
    unfold maxLen at hm
    have key : ∀ i, i < ln → ∃ nd : Nd, (∀ j, j < 10 → W.cell? (x.add (i * 10 + j)) = (ndC nd)[j]?) ∧ nd.text.length ∈ (D i).weights Tryd.prog 36 := by
      intro i hil
      obtain ⟨cs', hc, ht⟩ := hi i (by omega)
      rw [cellsNd] at hc
      obtain ⟨_, hcl, hat⟩ := World.cells?_some hc
      obtain ⟨nd, h1, h2⟩ := node_words hcl ht
      exact ⟨nd, fun j hj => by rw [← Go.Deep.add_add, hat j hj, h1 j hj], h2⟩
    let f : Nat → Nd := fun i => if h : i < ln then Classical.choose (key i h) else nd0
    have hfs : ∀ i (hil : i < ln), (∀ j, j < 10 → W.cell? (x.add (i * 10 + j)) = (ndC (f i))[j]?) ∧ (f i).text.length ∈ (D i).weights Tryd.prog 36 := fun i hil => by
      have hfi : f i = Classical.choose (key i hil) := by simp [f, hil]
      rw [hfi]; exact Classical.choose_spec (key i hil)
    have hfl : ((List.range ln).map f).length = ln := by simp
    refine ⟨(List.range ln).map f, some x, m, by rw [hfl], fun i hil => ?_, by rw [hfl]; exact hl, by rw [hfl]; omega, fun nd hnd => ?_⟩
    · rw [hfl] at hil
      have hgd : ((List.range ln).map f).getD i nd0 = f i := by simp [hil]
      have hs := (hfs i hil).1
      obtain ⟨b, off, spot⟩ := x
      have hc00 := (hfs 0 (by omega)).1 0 (by omega)
      have hspot : spot = none := by
        have hc : (ndC (f 0))[0]? = some (.int .i64 (f 0).kind) := rfl
        rw [hc] at hc00
        simpa [Addr.add] using World.cell?_spot hc00
      subst hspot
      have hadd : ∀ k, (⟨b, off, none⟩ : Addr).add k = ⟨b, off + k, none⟩ := fun k => by cases k <;> simp [Addr.add]
      refine ⟨b, off, rfl, ?_, fun j hj => ?_⟩
      · have hc : (ndC (f i))[0]? = some (.int .i64 (f i).kind) := rfl
        have := hs 0 (by omega)
        rw [hc] at this
        have := World.block_lt_of_cell? W _ this
        rw [hadd] at this; exact this
      · have := hs j hj
        rw [hadd] at this
        rw [hgd, Nat.add_assoc]; exact this
    · obtain ⟨i, hi2, rfl⟩ := List.mem_map.1 hnd
      have hil := List.mem_range.1 hi2
      have hmem := (hfs i hil).2
      have : (f i).text.length ≤ reachBytes := by
        apply hw
        subst hx
        unfold DataW.weights
        simp only [Tryd.underlying24]
        simp only [DataW.weightsEach, DataW.weights, Tryd.underlying22, List.map_cons, List.map_nil, List.append_nil]
        refine List.mem_cons_of_mem _ (List.mem_append_left _ (mem_weightsAll (List.mem_map.2 ⟨i, hi2, rfl⟩) hmem))
      unfold reachBytes at this
      omega
end
end Go.Proofs.YtpbadglfegcdjaaDoor
/- How much a description may leave to read: the plain mathematics. -/
namespace Go.Proofs.YtpbadglfegcdjaaDoor
open Go
set_option linter.unusedVariables false
set_option linter.unusedSimpArgs false

/-- The most. -/
def szM : Nat := 1099511627776
/-- The size of a part that stands among those. -/
def partS (S : List Nat) (a : Int) : Nat := if 0 ≤ a ∧ a < (S.length : Int) then S.getD a.toNat 0 else 0
/-- The size of a node of one part, by the part's. -/
def oneS (kind hi : Int) (s : Nat) : Nat :=
  if kind = 6 then s
  else if kind = 7 then min (hi.toNat * s) szM
  else if kind = 8 then min (256 * min (s + 1) szM) szM
  else min (256 + min (65536 * min (s + 1) szM) szM) szM
/-- The size of a node, its parts' sizes being among those. -/
def wholeN (n : Nd) (S : List Nat) : Nat :=
  if n.kind = 2 then 1
  else if n.kind = 3 then min n.text.length szM
  else if n.kind = 4 ∨ n.kind = 5 then min (partS S n.a + partS S n.b) szM
  else if 6 ≤ n.kind ∧ n.kind ≤ 9 then oneS n.kind n.hi (partS S n.a)
  else 0
/-- The sizes of the first nodes. -/
def szs (l : List Nd) : Nat → List Nat
  | 0 => []
  | k + 1 => szs l k ++ [wholeN (atN l k) (szs l k)]
/-- A node's size. -/
def szN (l : List Nd) (i : Nat) : Nat := wholeN (atN l i) (szs l i)
/-- A description's size. -/
def szD (l : List Nd) : Nat := min (szN l (l.length - 1) + 1) szM
theorem szs_length (l : List Nd) : ∀ k, (szs l k).length = k
  | 0 => rfl
  | k + 1 => by rw [szs, List.length_append, szs_length l k]; rfl
theorem szs_get (l : List Nd) : ∀ k j, j < k → (szs l k).getD j 0 = szN l j
  | 0, j, h => absurd h (Nat.not_lt_zero j)
  | k + 1, j, h => by
    rw [szs, List.getD_eq_getElem?_getD]
    rcases Nat.lt_or_ge j k with h1 | h1
    · rw [List.getElem?_append_left (by rw [szs_length]; exact h1), ← List.getD_eq_getElem?_getD]; exact szs_get l k j h1
    · rw [List.getElem?_append_right (by rw [szs_length]; exact h1), szs_length, show j = k by omega, Nat.sub_self]; rfl
theorem partS_at {l : List Nd} {i : Nat} {a : Int} (h0 : 0 ≤ a) (h1 : a < (i : Int)) : partS (szs l i) a = szN l a.toNat := by
  unfold partS
  rw [szs_length, if_pos ⟨h0, h1⟩, szs_get l i _ (by omega)]
theorem oneS_le (kind hi : Int) {s : Nat} (h : s ≤ szM) : oneS kind hi s ≤ szM := by
  unfold oneS
  (repeat' split) <;> first | exact h | exact Nat.min_le_right _ _
theorem partS_le {S : List Nat} (h : ∀ x ∈ S, x ≤ szM) (a : Int) : partS S a ≤ szM := by
  unfold partS
  split
  · rename_i hh
    rw [List.getD_eq_getElem?_getD, List.getElem?_eq_getElem (by omega)]
    exact h _ (List.getElem_mem _)
  · exact Nat.zero_le _
theorem wholeN_le (n : Nd) {S : List Nat} (h : ∀ x ∈ S, x ≤ szM) : wholeN n S ≤ szM := by
  unfold wholeN
  (repeat' split) <;> first | exact Nat.min_le_right _ _ | exact oneS_le _ _ (partS_le h _) | exact Nat.zero_le _ | (unfold szM; omega)
theorem szs_le (l : List Nd) : ∀ k, ∀ x ∈ szs l k, x ≤ szM
  | 0, x, h => by simp [szs] at h
  | k + 1, x, h => by
    rw [szs, List.mem_append] at h
    rcases h with h | h
    · exact szs_le l k x h
    · rw [List.mem_singleton.mp h]; exact wholeN_le _ (szs_le l k)
theorem szN_le (l : List Nd) (i : Nat) : szN l i ≤ szM := wholeN_le _ (szs_le l i)
/-- By the parts'. -/
def leafS (n : Nd) : Nat := if n.kind = 2 then 1 else if n.kind = 3 then min n.text.length szM else 0
theorem szN_leaf {l : List Nd} {i : Nat} (hk : leafK (atN l i).kind) : szN l i = leafS (atN l i) := by
  unfold szN wholeN leafS
  unfold leafK at hk
  rcases hk with hk | hk | hk <;> simp [hk]
theorem szN_one {l : List Nd} {i : Nat} (h : 0 < i) (hk : 6 ≤ (atN l i).kind ∧ (atN l i).kind ≤ 9) (ha : (atN l i).a = (i : Int) - 1) : szN l i = oneS (atN l i).kind (atN l i).hi (szN l (i - 1)) := by
  unfold szN wholeN
  rw [if_neg (by omega), if_neg (by omega), if_neg (by omega), if_pos hk, partS_at (by omega) (by omega), show (atN l i).a.toNat = i - 1 by omega]; rfl
theorem szN_two {l : List Nd} {i p : Nat} (h : 0 < i) (hk : (atN l i).kind = 4 ∨ (atN l i).kind = 5) (ha : (atN l i).a = (p : Int)) (hp : p < i) (hb : (atN l i).b = (i : Int) - 1) : szN l i = min (szN l p + szN l (i - 1)) szM := by
  unfold szN wholeN
  rw [if_neg (by omega), if_neg (by omega), if_pos hk, partS_at (by omega) (by omega), partS_at (by omega) (by omega), show (atN l i).a.toNat = p by omega, show (atN l i).b.toNat = i - 1 by omega]; rfl
theorem szs_congr {l m : List Nd} : ∀ {k : Nat}, (∀ j, j < k → atN l j = atN m j) → szs l k = szs m k
  | 0, _ => rfl
  | k + 1, h => by rw [szs, szs, szs_congr (k := k) (fun j hj => h j (by omega)), h k (by omega)]
theorem szN_congr {l m : List Nd} {i : Nat} (h : ∀ j, j ≤ i → atN l j = atN m j) : szN l i = szN m i := by
  unfold szN
  rw [szs_congr (fun j hj => h j (by omega)), h i (Nat.le_refl i)]
/-- Nodes laid elsewhere. -/
theorem size_moved {l m : List Nd} {d : Int} {f i : Nat} (hat : ∀ j, f ≤ j → j ≤ i → 0 ≤ (j : Int) + d ∧ atN m ((j : Int) + d).toNat = mvN d (atN l j)) (hok : ∀ j, f ≤ j → j ≤ i → okN l j (atN l j) ∧ f ≤ firstP l j) :
    ∀ j, f ≤ j → j ≤ i → szN m ((j : Int) + d).toNat = szN l j := by
  intro j
  induction j using Nat.strongRecOn with
  | ind j ih =>
    intro h1 h2
    obtain ⟨e0, e⟩ := hat j h1 h2
    obtain ⟨ho, hfj⟩ := hok j h1 h2
    generalize hn : atN l j = n at e ho
    cases ho.cs hn with
    | leaf hk hf =>
      rw [mvN_leaf hk] at e
      rw [szN_leaf (by rw [e]; exact hk), szN_leaf (by rw [hn]; exact hk), e, hn]
    | one hk hi ha hb h7 hr hc hf =>
      have hfl := firstP_le l (j - 1)
      have e2 : (mvN d n).a = n.a + d := by unfold mvN; rw [if_pos hk]
      have e4 : (mvN d n).hi = n.hi := by unfold mvN; rw [if_pos hk]
      have e3 := mvN_kind d n
      have hj1 := (hat (j - 1) (by omega) (by omega)).1
      rw [szN_one (by omega) (by rw [e, e3]; exact hk) (by rw [e, e2]; omega), szN_one hi (by rw [hn]; exact hk) (by rw [hn]; exact ha), e, hn, e3, e4]
      rw [← ih (j - 1) (by omega) (by omega) (by omega)]
      congr 2; omega
    | two hk hi hb ha hf0 hl hc hf =>
      have hle := firstP_le l (j - 1)
      have hle2 := firstP_le l (firstP l (j - 1) - 1)
      have e2 : (mvN d n).a = n.a + d := by unfold mvN; rw [if_neg (by omega), if_pos hk]
      have e5 : (mvN d n).b = n.b + d := by unfold mvN; rw [if_neg (by omega), if_pos hk]
      have e3 := mvN_kind d n
      have hj1 := (hat (firstP l (j - 1) - 1) (by omega) (by omega)).1
      rw [szN_two (p := (((firstP l (j - 1) - 1 : Nat) : Int) + d).toNat) (by omega) (by rw [e, e3]; exact hk) (by rw [e, e2]; omega) (by omega) (by rw [e, e5]; omega), szN_two (p := firstP l (j - 1) - 1) hi (by rw [hn]; exact hk) (by rw [hn]; omega) (by omega) (by rw [hn]; exact hb)]
      rw [ih (firstP l (j - 1) - 1) (by omega) (by omega) (by omega), show ((j : Int) + d).toNat - 1 = (((j - 1 : Nat) : Int) + d).toNat by omega, ih (j - 1) (by omega) (by omega) (by omega)]
/-- A node's description is as great as the node. -/
theorem size_sub {l : List Nd} {i : Nat} (hi : i < l.length) (h : okTo l i) : szD (subL l i) = min (szN l i + 1) szM := by
  have hle := firstP_le l i
  have hlen := subL_length hi
  have hin := first_in h
  have hat : ∀ j, firstP l i ≤ j → j ≤ i → 0 ≤ (j : Int) + -(firstP l i : Int) ∧ atN (subL l i) ((j : Int) + -(firstP l i : Int)).toNat = mvN (-(firstP l i : Int)) (atN l j) := fun j h1 h2 => by
    refine ⟨by omega, ?_⟩
    unfold subL
    rw [atN_map (by rw [seg_length (by omega)]; omega), seg_at (by omega)]
    congr 2; omega
  have := size_moved hat (fun j h1 h2 => ⟨h j h2, hin j h1 h2⟩) i hle (Nat.le_refl i)
  unfold szD
  rw [hlen, show i + 1 - firstP l i - 1 = ((i : Int) + -(firstP l i : Int)).toNat by omega, this]
theorem size_wrap {l : List Nd} (h : 0 < l.length) {kind lo hi : Int} (hk : 6 ≤ kind ∧ kind ≤ 9) : szD (wrapL kind lo hi l) = min (oneS kind hi (szN l (l.length - 1)) + 1) szM := by
  have hat : ∀ j, j < l.length → atN (wrapL kind lo hi l) j = atN l j := fun j hj => by unfold wrapL; exact atN_left hj
  have hl : atN (wrapL kind lo hi l) l.length = { kind := kind, a := (l.length : Int) - 1, lo := lo, hi := hi } := by
    unfold wrapL; rw [atN_right (Nat.le_refl _), Nat.sub_self]; rfl
  unfold szD
  have e : (wrapL kind lo hi l).length - 1 = l.length := by unfold wrapL; rw [List.length_append]; rfl
  rw [e, szN_one h (by rw [hl]; exact hk) (by rw [hl]), hl]
  rw [szN_congr (m := l) (fun j hj => hat j (by omega))]
theorem size_pair {l m : List Nd} (hl : 0 < l.length) (hm : Form m) {kind : Int} (hk : kind = 4 ∨ kind = 5) : szD (pairL kind l m) = min (min (szN l (l.length - 1) + szN m (m.length - 1)) szM + 1) szM := by
  obtain ⟨h1, h2, h3⟩ := pair_at (l := l) (m := m) (kind := kind)
  have hmp := hm.1
  have e : (pairL kind l m).length - 1 = l.length + m.length := by unfold pairL; rw [List.length_append, List.length_append, List.length_map]; rfl
  unfold szD
  rw [e, szN_two (p := l.length - 1) (by omega) (by rw [h3]; exact hk) (by rw [h3]; show (l.length : Int) - 1 = _; omega) (by omega) (by rw [h3]; show (l.length : Int) + (m.length : Int) - 1 = _; omega)]
  rw [szN_congr (m := l) (fun j hj => h1 j (by omega))]
  have := size_moved (l := m) (m := pairL kind l m) (d := (l.length : Int)) (f := 0) (i := m.length - 1) (fun j _ hj => ⟨by omega, by rw [show ((j : Int) + (l.length : Int)).toNat = l.length + j by omega]; exact h2 j (by omega)⟩) (fun j _ hj => ⟨hm.2.1 j (by omega), Nat.zero_le _⟩) (m.length - 1) (Nat.zero_le _) (Nat.le_refl _)
  rw [show l.length + m.length - 1 = (((m.length - 1 : Nat) : Int) + (l.length : Int)).toNat by omega, this]
end Go.Proofs.YtpbadglfegcdjaaDoor
