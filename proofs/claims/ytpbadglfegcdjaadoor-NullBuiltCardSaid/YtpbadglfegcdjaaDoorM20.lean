/- The anchor of layer 4: answers that the document fixes. -/
import Derived.Test.YtpbadglfegcdjaaDoorM19
import Derived.Test.YtpbadglfegcdjaaDoorM17
import Derived.Test.YtpbadglfegcdjaaDoorM18
namespace Go.Proofs.YtpbadglfegcdjaaDoor
open Go Go.RowKit
set_option linter.unusedVariables false
set_option linter.unusedSimpArgs false

def awA : List Nd := [{ kind := 1 }]
def awX : Nd := { kind := 3, text := [120] }
def awB : List Nd := [awX, { kind := 7, a := 0, lo := 1, hi := 2 }]
def awN2 : Nd := { kind := 7, a := 1, lo := 1, hi := 2 }
def awN3 : Nd := { kind := 5, a := 0, b := 2 }
def awD : List Nd := [{ kind := 1 }, awX, awN2, awN3]
theorem awB_eq : wrapL 7 1 2 [awX] = awB := by decide
theorem awD_eq : pairL 5 awA awB = awD := by decide
theorem form_one {n : Nd} (h : okN [n] 0 n) (hk : leafK n.kind) : Form [n] := by
  refine ⟨by simp, fun i hi => ?_, ?_⟩
  · obtain rfl : i = 0 := by simpa using hi
    exact h
  · show firstP [n] 0 = 0
    have := firstP_le [n] 0; omega
theorem awA_form : Form awA := form_one ⟨by decide, .inl rfl⟩ (.inl rfl)
theorem awX_form : Form [awX] := form_one ⟨by decide, .inr (.inr (.inl ⟨rfl, by decide⟩))⟩ (.inr (.inr rfl))
theorem awB_form : Form awB := by rw [← awB_eq]; exact wrap_form7 awX_form (by decide) (by decide) (by decide)
theorem awD_form : Form awD := by rw [← awD_eq]; exact pair_form awA_form awB_form (.inr rfl)
theorem awD_first2 : firstP awD 2 = 1 := by
  have := (pair_sub awA_form awB_form (kind := 5)).2.2
  rw [awD_eq] at this; exact this
theorem awD_sub2 : subL awD 2 = awB := by
  have := (pair_sub awA_form awB_form (kind := 5)).2.1
  rw [awD_eq] at this; exact this
theorem awD_first3 : firstP awD 3 = 0 := awD_form.2.2
theorem awD_cut : formB (awD.take 3) = false := formB_not (fun h => by
  have := (cut_form awD_form (k := 2) (by decide)).1 h
  rw [awD_first2] at this; cases this)
theorem awNil : formB [] = false := formB_not (fun h => by have := h.1; simp at this)
def awE : Nd := { kind := 1, a := 1 }
theorem awE_form : formB [awE] = false := formB_not (fun h => by
  have := (h.2.1 0 (by simp)).1
  exact absurd this (by decide))
theorem awTxt : Txt awD := fun n hn => by
  have : ∀ n ∈ awD, n.text.length ≤ 1 := by decide
  have := this n hn; omega
theorem mvOk0 {n : Nd} (ht : n.text.length ≤ 1000) (ha : -1000 ≤ n.a ∧ n.a ≤ 1000) (hb : -1000 ≤ n.b ∧ n.b ≤ 1000) {d : Int} (hd : -1000 ≤ d ∧ d ≤ 1000) : MvOk d n :=
  ⟨by omega, fun _ => wrap_in (by omega) (by omega), fun _ => wrap_in (by omega) (by omega)⟩
theorem awETxt : Txt [awE] := fun n hn => by simp at hn; subst hn; decide
structure AwN (w0 : World) (b1 b2 b3 : Nat) (A1 A2 : Option Addr) (bd od : Nat) (c1 c2 c3 : Nat) (w : World) : Prop where
  bel : Below w0.heap.size w0 w
  u8 : U8T w
  x1 : Blk w b1 #[.slice A1 1 c1] 24
  x2 : Blk w b2 #[.slice A2 2 c2] 24
  x3 : Blk w b3 #[.slice (some ⟨bd, od, none⟩) 4 c3] 24
  r1 : NRow w A1 awA
  r2 : NRow w A2 awB
  r3 : NRow w (some ⟨bd, od, none⟩) awD
theorem AwN.later {w0 w w' : World} {b1 b2 b3 : Nat} {A1 A2 : Option Addr} {bd od c1 c2 c3 : Nat} (h : AwN w0 b1 b2 b3 A1 A2 bd od c1 c2 c3 w) (hb : Below w.heap.size w w') : AwN w0 b1 b2 b3 A1 A2 bd od c1 c2 c3 w' :=
  ⟨h.bel.trans (hb.mono h.bel.size), h.u8.later hb, h.x1.later hb, h.x2.later hb, h.x3.later hb, h.r1.later hb, h.r2.later hb, h.r3.later hb⟩
theorem AwN.cells {w0 w : World} {b1 b2 b3 : Nat} {A1 A2 : Option Addr} {bd od c1 c2 c3 : Nat} (h : AwN w0 b1 b2 b3 A1 A2 bd od c1 c2 c3 w) : w.cell? ⟨bd, od + 20, none⟩ = some (.int .i64 7) ∧ w.cell? ⟨bd, od + 21, none⟩ = some (.int .i64 1) ∧ w.cell? ⟨bd, od + 22, none⟩ = some (.int .i64 0) ∧ w.cell? ⟨bd, od + 23, none⟩ = some (.int .i64 1) ∧ w.cell? ⟨bd, od + 24, none⟩ = some (.int .i64 2) ∧ w.cell? ⟨bd, od + 25, none⟩ = some (.int .u64 0) ∧ w.cell? ⟨bd, od + 26, none⟩ = some (.int .u64 0) ∧ w.cell? ⟨bd, od + 27, none⟩ = some (.int .u64 0) ∧ w.cell? ⟨bd, od + 28, none⟩ = some (.int .u64 0) ∧ w.cell? ⟨bd, od + 29, none⟩ = some (.string ⟨#[]⟩) ∧ w.cell? ⟨bd, od + 30, none⟩ = some (.int .i64 5) ∧ w.cell? ⟨bd, od + 31, none⟩ = some (.int .i64 0) ∧ w.cell? ⟨bd, od + 32, none⟩ = some (.int .i64 2) ∧ w.cell? ⟨bd, od + 33, none⟩ = some (.int .i64 0) ∧ w.cell? ⟨bd, od + 34, none⟩ = some (.int .i64 0) ∧ w.cell? ⟨bd, od + 35, none⟩ = some (.int .u64 0) ∧ w.cell? ⟨bd, od + 36, none⟩ = some (.int .u64 0) ∧ w.cell? ⟨bd, od + 37, none⟩ = some (.int .u64 0) ∧ w.cell? ⟨bd, od + 38, none⟩ = some (.int .u64 0) ∧ w.cell? ⟨bd, od + 39, none⟩ = some (.string ⟨#[]⟩) := by
  have g2 : At10 w bd (od + 20) awN2 := h.r3.at (i := 2) (by decide) rfl
  have g3 : At10 w bd (od + 30) awN3 := h.r3.at (i := 3) (by decide) rfl
  obtain ⟨a0, a1, a2, a3, a4, a5, a6, a7, a8, a9⟩ := g2
  obtain ⟨d0, d1, d2, d3, d4, d5, d6, d7, d8, d9⟩ := g3
  have z0 : (wd awN2.cls 0 : Int) = 0 := by decide
  have z1 : (wd awN2.cls 1 : Int) = 0 := by decide
  have z2 : (wd awN2.cls 2 : Int) = 0 := by decide
  have z3 : (wd awN2.cls 3 : Int) = 0 := by decide
  have y0 : (wd awN3.cls 0 : Int) = 0 := by decide
  have y1 : (wd awN3.cls 1 : Int) = 0 := by decide
  have y2 : (wd awN3.cls 2 : Int) = 0 := by decide
  have y3 : (wd awN3.cls 3 : Int) = 0 := by decide
  rw [z0] at a5
  rw [z1] at a6
  rw [z2] at a7
  rw [z3] at a8
  rw [y0] at d5
  rw [y1] at d6
  rw [y2] at d7
  rw [y3] at d8
  exact ⟨a0, a1, a2, a3, a4, a5, a6, a7, a8, a9, d0, d1, d2, d3, d4, d5, d6, d7, d8, d9⟩
theorem awq1 (w : World) : (binOp .eql 36 (.agg #[.int .i64 7, .int .i64 1, .int .i64 0, .int .i64 1, .int .i64 2, .int .u64 0, .int .u64 0, .int .u64 0, .int .u64 0, .string ⟨#[]⟩]) (.agg #[.int .i64 7, .int .i64 1, .int .i64 0, .int .i64 1, .int .i64 2, .int .u64 0, .int .u64 0, .int .u64 0, .int .u64 0, .string ⟨#[]⟩])).run Tryd.prog w = .ok (.bool true) w := by
  have := eql_nd awN2 awN2 w
  unfold awN2 at this
  rw [ndC_zero] at this
  exact this
theorem awq2 (w : World) : (binOp .eql 36 (.agg #[.int .i64 5, .int .i64 0, .int .i64 2, .int .i64 0, .int .i64 0, .int .u64 0, .int .u64 0, .int .u64 0, .int .u64 0, .string ⟨#[]⟩]) (.agg #[.int .i64 5, .int .i64 0, .int .i64 2, .int .i64 0, .int .i64 0, .int .u64 0, .int .u64 0, .int .u64 0, .int .u64 0, .string ⟨#[]⟩])).run Tryd.prog w = .ok (.bool true) w := by
  have := eql_nd awN3 awN3 w
  unfold awN3 at this
  rw [ndC_zero] at this
  exact this
theorem IsD.form {l : List Nd} {v : Value} {w : World} (h : IsD l v w) (hl : l.length ≤ 1073741824) (ht : Txt l) (hT : U8T w) : Calls Tryd.prog 19 #[v] w (Ans w (.bool (formB l))) := by
  obtain ⟨A, c, _, rfl, hr⟩ := h
  exact form_any l A c hl ht w hr hT
end Go.Proofs.YtpbadglfegcdjaaDoor
/- The statement NodeParts of layer 4, walked. -/
namespace Go.Proofs.YtpbadglfegcdjaaDoor
open Go Go.RowKit
set_option linter.unusedVariables false
set_option linter.unusedSimpArgs false

theorem Form.mvOk {l : List Nd} (h : Form l) (ht : Txt l) (hlen : l.length ≤ 1073741823) {d : Int} (h1 : -1073741824 ≤ d) (h2 : d ≤ 1073741824) : ∀ n ∈ l, MvOk d n := fun n hn => by
  obtain ⟨i, hi, e⟩ := List.mem_iff_getElem.1 hn
  have ha : atN l i = n := by unfold atN; rw [List.getD_eq_getElem?_getD, List.getElem?_eq_getElem hi]; exact e
  have := (h.2.1 i hi).mvOk (by omega) (txt_at ht i) h1 h2
  rwa [ha] at this
theorem txt_sub {l : List Nd} (ht : Txt l) {i : Nat} (hi : i < l.length) : Txt (subL l i) := fun n hn => by
  unfold subL at hn
  obtain ⟨m, hm, rfl⟩ := List.mem_map.1 hn
  have hle := firstP_le l i
  obtain ⟨j, _, _, rfl⟩ := mem_seg (by omega) hm
  have := txt_at ht j
  have e : ∀ (k : Int) (n : Nd), (mvN k n).text = n.text := fun k n => by unfold mvN; (repeat' split) <;> rfl
  rw [e]; exact this
theorem few_Txt {l : List Nd} (h : fewB l = true) : Txt l := fun n hn => by have := (few_txt h).2 n hn; omega
structure NpS (w0 : World) (A : Option Addr) (l : List Nd) (c : Nat) (w : World) : Prop where
  fst : FstS w0 A l c w
  u8 : U8T w
theorem NpS.later {w0 w w' : World} {A : Option Addr} {l : List Nd} {c : Nat} (h : NpS w0 A l c w) (hb : Below w.heap.size w w') : NpS w0 A l c w' := ⟨h.fst.later hb, h.u8.later hb⟩
structure NqS (w0 : World) (A : Option Addr) (l : List Nd) (c bx by_ : Nat) (B : Option Addr) (k : Nat) (e : Nat) (m : List Nd) (n : Nd) (w : World) : Prop where
  s : NpS w0 A l c w
  x : Blk w bx #[.slice B k e] 24
  r : NRow w B m
  y : Blk w by_ (ndC n) 36
theorem NqS.later {w0 w w' : World} {A : Option Addr} {l : List Nd} {c bx by_ : Nat} {B : Option Addr} {k e : Nat} {m : List Nd} {n : Nd} (h : NqS w0 A l c bx by_ B k e m n w) (hb : Below w.heap.size w w') : NqS w0 A l c bx by_ B k e m n w' := ⟨h.s.later hb, h.x.later hb, h.r.later hb, h.y.later hb⟩
def ni (i : Nat) : Int := (i : Int)
end Go.Proofs.YtpbadglfegcdjaaDoor
/- The statement NodeForms of layer 4, walked. -/
namespace Go.Proofs.YtpbadglfegcdjaaDoor
open Go Go.RowKit
set_option linter.unusedVariables false
set_option linter.unusedSimpArgs false

theorem okN.kind9 {l : List Nd} {i : Nat} {n : Nd} (h : okN l i n) : n.kind ≤ 9 := by
  obtain ⟨_, h⟩ := h; omega
set_option maxHeartbeats 8000000 in
set_option maxRecDepth 100000 in
theorem rsub_any (l : List Nd) (A : Option Addr) (c i : Nat) (hc : l.length ≤ c) (hi : i < l.length) (hlen : l.length ≤ 536870912) (hok : okTo l i) (htx : Txt l) (w : World) (hrow : NRow w A l) :
    Calls Tryd.prog 16 #[.agg #[.slice A l.length c], .int .i64 (i : Int)] w (DPost w (subL l i)) := by
  have HS0 := Lib.hid (SbS.new w A l c hrow)
  have HF : Hid (∀ w', NRow w' A l → Calls Tryd.prog 20 #[.slice A l.length c, .int .i64 (i : Int)] w' (Ans w' (.int .i64 (firstP l i : Int)))) := fun w' h => by
    have := reffirst_any l A c (by omega) htx (i + 1) (by omega) w' h
    rw [refG_ok l i hok] at this
    rwa [show ((i + 1 : Nat) : Int) - 1 = (i : Int) by omega] at this
  obtain ⟨ba, oa, rfl, hbl, -⟩ := hrow i hi
  have HOK := Lib.hid hok
  have HTX := Lib.hid htx
  clear hrow hok htx
  go_enter Tryd.func16, Tryd.ntmps16
  go_upto_region 1 with (fail)
  generalize (w.alloc (.cells #[.slice (some ⟨ba, oa, none⟩) l.length c] 24)).alloc (.cells #[.slice none 0 0] 24) = w1 at *
  have e0 := HS0.out.fst.box.cell 0
  simp at e0
  go_wp2_with fail
  refine (HF.out _ HS0.out.fst.row).mono ?_; rintro e w3 ⟨rfl, hb3⟩
  have HS3 := Lib.hid (HS0.out.later hb3)
  clear hb3 e0
  have e0 := HS3.out.fst.box.cell 0
  simp at e0
  have hfi := firstP_le l i
  have HM : Hid (∀ n ∈ seg l (firstP l i) (i + 1 - firstP l i), MvOk (-(firstP l i : Int)) n ∧ n.kind ≤ 9) := fun n hn => by
    obtain ⟨j, h1, h2, rfl⟩ := mem_seg (by omega) hn
    exact ⟨(HOK.out j (by omega)).mvOk (by omega) (txt_at HTX.out j) (by omega) (by omega), (HOK.out j (by omega)).kind9⟩
  have HSL : Hid (∀ w', NRow w' (some ⟨ba, oa, none⟩) l → NRow w' (some ⟨ba, oa + firstP l i * 10, none⟩) (seg l (firstP l i) (i + 1 - firstP l i))) := fun w' h => h.part (by omega)
  have HLN : Hid ((seg l (firstP l i) (i + 1 - firstP l i)).length = i + 1 - firstP l i) := seg_length (by omega)
  have HSU : Hid (subL l i = (seg l (firstP l i) (i + 1 - firstP l i)).map (mvN (-(firstP l i : Int)))) := rfl
  clear HF
  generalize firstP l i = f at *
  generalize seg l f (i + 1 - f) = m at *
  have hic : (i : Int) + 1 ≤ (c : Int) := by omega
  have hfz : (f : Int) ≤ (i : Int) + 1 := by omega
  have hfc : ¬ (f = c) := by omega
  have LC : Hid (Calls Tryd.prog 23 #[.slice (some ⟨ba, oa + f * 10, none⟩) (i + 1 - f) (c - f), .int .i64 (-(f : Int))] w3 (LaidPost w3 w3.heap.size (subL l i))) := by
    have h := rmoved_any m (-(f : Int)) (some ⟨ba, oa + f * 10, none⟩) (c - f) w3 (HSL.out _ HS3.out.fst.row) (by rw [HLN.out]; omega) HM.out
    rw [HLN.out] at h
    unfold Hid; rw [HSU.out]; exact h
  go_wp2_with fail
  refine LC.out.mono ?_; intro e w4 hp; obtain ⟨s, rfl, ho, hb4⟩ := hp
  obtain ⟨A2, c2, rfl, -⟩ := ho.row
  have HS4 := Lib.hid (HS3.out.later hb4)
  have HO := Lib.hid ho
  have hlow : w.heap.size + 1 < w3.heap.size := HS3.out.res.lt
  clear hb4 ho e0 LC
  have r0 := HS4.out.res.cell 0
  simp at r0
  have rf := HS4.out.res.frozen
  have s0 := HS4.out.res.put10 (o := 0) (by simp)
  go_wp2
  exact bodyPost_ret (v := .agg #[.slice A2 (subL l i).length c2]) (by simp [results, Tryd.results16, go_sem, s0]) rfl ⟨_, rfl, (HO.out.setCell_ne (a := ⟨w.heap.size + 1, 0, none⟩) hlow _).weaken (by omega), HS4.out.fst.bel.setCell (p := ⟨w.heap.size + 1, 0, none⟩) (Nat.le_succ _) _⟩
structure NfS (w0 : World) (A B : Option Addr) (a b : List Nd) (c1 c2 : Nat) (w : World) : Prop where
  s : RsS w0 A B a b c1 c2 w
  u8 : U8T w
theorem NfS.later {w0 w w' : World} {A B : Option Addr} {a b : List Nd} {c1 c2 : Nat} (h : NfS w0 A B a b c1 c2 w) (hb : Below w.heap.size w w') : NfS w0 A B a b c1 c2 w' := ⟨h.s.later hb, h.u8.later hb⟩
end Go.Proofs.YtpbadglfegcdjaaDoor
/- The statement NodeTurned of layer 4, walked. -/
namespace Go.Proofs.YtpbadglfegcdjaaDoor
open Go Go.RowKit
set_option linter.unusedVariables false
set_option linter.unusedSimpArgs false

theorem okN.abound {l : List Nd} {i : Nat} {n : Nd} (hn : atN l i = n) (h : okN l i n) : 0 ≤ n.a ∧ n.a ≤ (i : Int) := by
  have c := h.cs hn
  cases c with
  | leaf hk hf =>
    have b2 := (h.leafs hk).1
    have a1 : n.a = 0 := by
      rw [← b2]; unfold backN; rcases hk with hk | hk | hk <;> simp [hk]
    omega
  | one hk hi ha => omega
  | two hk hi hb ha hf0 => have := firstP_le l (i - 1); omega
theorem NRow.take {w : World} {A : Option Addr} {l : List Nd} (h : NRow w A l) (n : Nat) : NRow w A (l.take n) := fun i hi => by
  rw [List.length_take] at hi
  have e : (l.take n).getD i nd0 = l.getD i nd0 := by
    rw [List.getD_eq_getElem?_getD, List.getD_eq_getElem?_getD, List.getElem?_take, if_pos (by omega)]
  rw [e]; exact h i (by omega)
theorem Txt.take {l : List Nd} (h : Txt l) (n : Nat) : Txt (l.take n) := fun x hx => h x (List.mem_of_mem_take hx)
theorem Txt.setA {l : List Nd} (h : Txt l) (i : Nat) (x : Int) : Txt (l.set i { l.getD i nd0 with a := x }) := fun n hn => by
  rcases List.mem_or_eq_of_mem_set hn with h1 | rfl
  · exact h n h1
  · exact txt_at h i
theorem Txt.app1 {l : List Nd} (h : Txt l) (i : Nat) : Txt (l ++ [l.getD i nd0]) := fun n hn => by
  rw [List.mem_append] at hn
  rcases hn with h1 | h1
  · exact h n h1
  · rw [List.mem_singleton] at h1; subst h1; exact txt_at h i
/-- A new empty row. -/
def NewE10 (v : Value) (w : World) : Prop := ∃ b, v = .slice (some ⟨b, 0, none⟩) 0 0 ∧ Blk w b #[] 36
theorem NewE10.later (v : Value) (w w' : World) (h : NewE10 v w) (hb : Below w.heap.size w w') : NewE10 v w' := by obtain ⟨b, h1, h2⟩ := h; exact ⟨b, h1, h2.later hb⟩
def OwnB (base : Nat) (l : List Nd) (v : Value) (w : World) : Prop := OwnN w base v l ∧ base ≤ w.heap.size
theorem OwnB.later (base : Nat) (l : List Nd) (v : Value) (w w' : World) (h : OwnB base l v w) (hb : Below w.heap.size w w') : OwnB base l v w' := ⟨h.1.later hb, Nat.le_trans h.2 hb.size⟩
def New10 (n : Nd) (v : Value) (w : World) : Prop := ∃ b, v = .slice (some ⟨b, 0, none⟩) 1 1 ∧ Blk w b (ndC n) 36
theorem New10.later (n : Nd) (v : Value) (w w' : World) (h : New10 n v w) (hb : Below w.heap.size w w') : New10 n v w' := by obtain ⟨b, h1, h2⟩ := h; exact ⟨b, h1, h2.later hb⟩
theorem OwnN.base {w : World} {b b' : Nat} {v : Value} {l : List Nd} (h : OwnN w b v l) (hb : b' ≤ b) : OwnN w b' v l := by
  obtain ⟨h0, ⟨hv, hn⟩ | ⟨g, cap, cur, hv, hg, hr⟩⟩ := h
  · exact ⟨h0, .inl ⟨hv, hn⟩⟩
  · exact ⟨h0, .inr ⟨g, cap, cur, hv, Nat.le_trans hb hg, hr⟩⟩
end Go.Proofs.YtpbadglfegcdjaaDoor
