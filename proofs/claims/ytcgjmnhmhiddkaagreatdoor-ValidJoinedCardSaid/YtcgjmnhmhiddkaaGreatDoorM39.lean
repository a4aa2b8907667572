/- valid's ways, Read and Is: walked. -/
import Derived.Test.YtcgjmnhmhiddkaaGreatDoorM25
import Derived.Test.YtcgjmnhmhiddkaaGreatDoorM28
import Derived.Test.YtcgjmnhmhiddkaaGreatDoorM34
import Derived.Test.YtcgjmnhmhiddkaaGreatDoorM38
import Derived.Test.YtcgjmnhmhiddkaaGreatDoorM22
import Derived.Laws.EntriesVeiled
namespace Go.Proofs.YtcgjmnhmhiddkaaGreatDoor
open Go Go.RowKit
set_option linter.unusedVariables false
set_option linter.unusedSimpArgs false
set_option maxRecDepth 100000

/-- A text's reading in its box. -/
structure RgS (w0 : World) (b : Nat) (l : List UInt8) (tv nv av : Value) (w : World) : Prop where
  bel : Below w0.heap.size w0 w
  low : w0.heap.size ≤ b
  box : Blk w b #[.string (bs l), tv, nv, av] 48
theorem RgS.later {w0 w w' : World} {b : Nat} {l : List UInt8} {tv nv av : Value} (h : RgS w0 b l tv nv av w) (hb : Below w.heap.size w w') : RgS w0 b l tv nv av w' := ⟨h.bel.trans (hb.mono h.bel.size), h.low, h.box.later hb⟩
theorem RgS.toks {w0 w : World} {b : Nat} {l : List UInt8} {tv nv av : Value} (h : RgS w0 b l tv nv av w) (v : Value) : RgS w0 b l v nv av (w.setCell ⟨b, 1, none⟩ v) := ⟨h.bel.setCell (p := ⟨b, 1, none⟩) h.low v, h.low, by simpa using h.box.setCell 1 v⟩
theorem RgS.node {w0 w : World} {b : Nat} {l : List UInt8} {tv nv av : Value} (h : RgS w0 b l tv nv av w) (v : Value) : RgS w0 b l tv v av (w.setCell ⟨b, 2, none⟩ v) := ⟨h.bel.setCell (p := ⟨b, 2, none⟩) h.low v, h.low, by simpa using h.box.setCell 2 v⟩
theorem RgS.ats {w0 w : World} {b : Nat} {l : List UInt8} {tv nv av : Value} (h : RgS w0 b l tv nv av w) (v : Value) : RgS w0 b l tv nv v (w.setCell ⟨b, 3, none⟩ v) := ⟨h.bel.setCell (p := ⟨b, 3, none⟩) h.low v, h.low, by simpa using h.box.setCell 3 v⟩
theorem drewV (B : Nat) (w : World) (n : Nat) : Below B w (w.drewN n) := ⟨rfl, rfl, rfl, Nat.le_refl _, fun _ _ => rfl⟩
/-- A row of tokens stands in no box of four cells. -/
theorem TRow.setb {w : World} {A : Option Addr} {r : List Tok} (h : TRow w A r) {b o : Nat} {cs : Array Value} {t : TypeId} (hk : Blk w b cs t) (hc : cs.size ≤ 8) (v : Value) : TRow (w.setCell ⟨b, o, none⟩ v) A r := fun i hi => by
  obtain ⟨g, off, ha, hlt, hcl⟩ := h i hi
  have hne : g ≠ b := fun e => by
    subst e
    have h8 := hcl 8 (by omega)
    rw [hk.cell, Array.getElem?_eq_none (by omega)] at h8
    unfold tokC at h8
    simp at h8
  refine ⟨g, off, ha, by simpa [World.setCell] using hlt, fun j hj => ?_⟩
  rw [World.cell?_setCell_other (h := by intro e; injection e with e1; exact hne e1.symm)]
  exact hcl j hj
/-- Other boxes are kept. -/
def KeepB (b : Nat) (w w' : World) : Prop := ∀ c cs t, c ≠ b → Blk w c cs t → Blk w' c cs t
theorem KeepB.of {b : Nat} {w w' : World} (h : Below w.heap.size w w') : KeepB b w w' := fun c cs t _ k => k.later h
theorem KeepB.set {b : Nat} {w w' : World} (h : KeepB b w w') (o : Nat) (v : Value) : KeepB b w (w'.setCell ⟨b, o, none⟩ v) := fun c cs t hne k => (h c cs t hne k).setCell_ne (a := ⟨b, o, none⟩) (Ne.symm hne) v
def TtPost (w0 : World) (b : Nat) (l : List UInt8) (nv av : Value) (w : World) (e : Ending) (w' : World) : Prop := match readL l 0 0 with
  | .ok r => ∃ A c, e = .returned (.tuple #[.int .i64 0, .int .i64 0]) ∧ TRow w' A r ∧ RgS w0 b l (.slice A r.length c) nv av w' ∧ KeepB b w w'
  | .error (f, q) => e = .returned (.tuple #[.int .i64 (f : Int), .int .i64 (q : Int)]) ∧ RgS w0 b l (.slice none 0 0) nv av w' ∧ KeepB b w w'
set_option maxHeartbeats 16000000 in
theorem totok_any {l : List UInt8} (hl : l.length ≤ 1073741823) {w0 : World} (hU : U8T w0) {b : Nat} {nv av : Value} (w : World) (h : RgS w0 b l (.slice none 0 0) nv av w) :
    Calls Tryz.prog 34 #[.pointer (some ⟨b, 0, none⟩)] w (TtPost w0 b l nv av w) := by
  have RD := Lib.hid (lexread_any l w (hU.later h.bel) hl)
  have HS := Lib.hid h
  have e0 := h.box.cell 0
  simp at e0
  clear h hU
  unfold TtPost
  cases hr : readL l 0 0 with
  | ok r =>
    have HR := Lib.hid hr
    clear hr
    go_enter Tryz.func34, Tryz.ntmps34
    go_wp2_with fail
    refine RD.out.mono ?_; intro e w1 hp
    unfold RdPost at hp
    rw [HR.out] at hp
    obtain ⟨A, c, rfl, hrow, hb, hc⟩ := hp
    have HS1 := Lib.hid (HS.out.later hb)
    have HT := Lib.hid hrow
    have HKB : Hid (KeepB b w w1) := KeepB.of hb
    clear hb hrow HS e0 RD
    have e1 := HS1.out.box.cell 1
    have f1 := HS1.out.box.frozen 1
    simp at e1
    go_wp2
    go_ret2
    exact ⟨A, c, rfl, HT.out.setb HS1.out.box (by simp) _, HS1.out.toks _, HKB.out.set _ _⟩
  | error z =>
    obtain ⟨f, q⟩ := z
    have HR := Lib.hid hr
    clear hr
    go_enter Tryz.func34, Tryz.ntmps34
    go_wp2_with fail
    refine RD.out.mono ?_; intro e w1 hp
    unfold RdPost at hp
    rw [HR.out] at hp
    obtain ⟨rfl, hb⟩ := hp
    have HS1 := Lib.hid (HS.out.later hb)
    have HKB : Hid (KeepB b w w1) := KeepB.of hb
    clear hb HS e0 RD
    have e1 := HS1.out.box.cell 1
    have f1 := HS1.out.box.frozen 1
    simp at e1
    go_wp2
    go_ret2
    exact ⟨rfl, HS1.out.toks _, HKB.out.set _ _⟩
def TnPost (w0 : World) (b : Nat) (l : List UInt8) (tv : Value) (r : PR) (w : World) (e : Ending) (w' : World) : Prop := match r with
  | .ok k t => ∃ nv av, e = .returned (.tuple #[.int .i64 0, .int .i64 0]) ∧ OwnN w' w0.heap.size nv t.nodes ∧ OwnI w' w0.heap.size av t.ats ∧ RgS w0 b l tv nv av w' ∧ KeepB b w w'
  | .bad er p => e = .returned (.tuple #[.int .i64 er, .int .i64 p]) ∧ RgS w0 b l tv (.slice none 0 0) (.slice none 0 0) w' ∧ KeepB b w w'
  | .out => False
theorem toks_txtV {l : List UInt8} {r : List Tok} (h : readL l 0 0 = .ok r) (hl : l.length ≤ 281474976710656) : TkTxt' (r.map tkOfT) := fun p => by
  by_cases hp : p < r.length
  · rw [tkT_at hp]
    have := readL_text l 0 0 r h _ (List.getElem_mem hp)
    show (r[p]'hp).text.length ≤ _
    omega
  · have : tkAt (r.map tkOfT) p = tkEnd := by unfold tkAt; rw [List.getD_eq_getElem?_getD, List.getElem?_eq_none (by rw [List.length_map]; omega)]; rfl
    rw [this]; simp [tkEnd]
theorem hrow_tk {w : World} {A : Option Addr} {r : List Tok} (h : TRow w A r) : TkRow w A (r.map tkOfT) := h.tk
set_option maxHeartbeats 16000000 in
theorem tonode_any {l : List UInt8} {r : List Tok} {p : PR} {A : Option Addr} {c : Nat} {w0 : World} {b : Nat} {nv av : Value} (w : World) (h : RgS w0 b l (.slice A r.length c) nv av w)
    (hP : Calls Tryz.prog 53 #[.slice A r.length c] w (PParse w p)) (hnot : p ≠ .out) :
    Calls Tryz.prog 35 #[.pointer (some ⟨b, 0, none⟩)] w (TnPost w0 b l (.slice A r.length c) p w) := by
  have RD := Lib.hid hP
  have HS := Lib.hid h
  have e0 := h.box.cell 1
  simp at e0
  clear h hP
  generalize r.length = n at *
  cases p with
  | out => exact absurd rfl hnot
  | ok k t =>
    unfold TnPost
    go_enter Tryz.func35, Tryz.ntmps35
    go_wp2_with fail
    refine RD.out.mono ?_; intro e w1 hp
    obtain ⟨nv', av', rfl, hn, hi, hb⟩ := hp
    have HS1 := Lib.hid (HS.out.later hb)
    have HN : Hid (OwnN w1 w0.heap.size nv' t.nodes) := own_base hn (HS.out.bel.size)
    have HI : Hid (OwnI w1 w0.heap.size av' t.ats) := own_base hi (HS.out.bel.size)
    have HKB : Hid (KeepB b w w1) := KeepB.of hb
    clear hb hn hi HS e0 RD
    obtain ⟨an', kn', rfl, -⟩ := HN.out.row
    obtain ⟨aa', ka', rfl, -⟩ := HI.out.row
    have e1 := HS1.out.box.cell 2
    have e2 := HS1.out.box.cell 3
    have f1 := HS1.out.box.frozen 2
    have f2 := HS1.out.box.frozen 3
    simp at e1 e2
    go_wp2
    go_ret2
    have g1 := HS1.out.node (.slice an' t.nodes.length kn')
    have g2 := g1.ats (.slice aa' t.ats.length ka')
    exact ⟨_, _, rfl, own_set (own_set HN.out (own_typed HN.out HS1.out.box (by decide)) _) (own_typed HN.out HS1.out.box (by decide)) _, own_set (own_set HI.out (own_typed HI.out HS1.out.box (by decide)) _) (own_typed HI.out HS1.out.box (by decide)) _, g2, (HKB.out.set _ _).set _ _⟩
  | bad er q =>
    unfold TnPost
    go_enter Tryz.func35, Tryz.ntmps35
    go_wp2_with fail
    refine RD.out.mono ?_; intro e w1 hp
    obtain ⟨rfl, hb⟩ := hp
    have HS1 := Lib.hid (HS.out.later hb)
    have HKB : Hid (KeepB b w w1) := KeepB.of hb
    clear hb HS e0 RD
    have e1 := HS1.out.box.cell 2
    have e2 := HS1.out.box.cell 3
    have f1 := HS1.out.box.frozen 2
    have f2 := HS1.out.box.frozen 3
    simp at e1 e2
    go_wp2
    go_ret2
    exact ⟨rfl, (HS1.out.node _).ats _, (HKB.out.set _ _).set _ _⟩
def TrPost (w0 : World) (b : Nat) (l : List UInt8) (tv nv av : Value) (D : List Nd) (ats : List Int) (w : World) (e : Ending) (w' : World) : Prop :=
  (if (fstW D).2 = true then e = .returned (.tuple #[.int .i64 10, .int .i64 (ats.getD (fstW D).1 0)]) else e = .returned (.tuple #[.int .i64 0, .int .i64 0])) ∧ RgS w0 b l tv nv av w' ∧ OwnN w' w0.heap.size nv D ∧ KeepB b w w'
set_option maxHeartbeats 16000000 in
theorem toright_any {l : List UInt8} {D : List Nd} {ats : List Int} (hs : Sm D) (hlen : ats.length = D.length) {w0 : World} {b : Nat} {tv nv av : Value} (w : World) (h : RgS w0 b l tv nv av w) (hn : OwnN w w0.heap.size nv D) (hi : OwnI w w0.heap.size av ats) :
    Calls Tryz.prog 36 #[.pointer (some ⟨b, 0, none⟩)] w (TrPost w0 b l tv nv av D ats w) := by
  have HN := Lib.hid hn
  have HS := Lib.hid h
  have e0 := h.box.cell 2
  simp at e0
  obtain ⟨aa, ca, rfl, hrow⟩ := hi.row
  have HI := Lib.hid hrow
  have RD := Lib.hid (hn.isD.nfirst hs rfl)
  have HX : Hid (∀ i, ats.getD i 0 = ats.getD i 0) := fun _ => rfl
  obtain ⟨n, hnn⟩ : ∃ n, ats.length = n := ⟨_, rfl⟩
  have HIT : Hid ((fstW D).2 = true → (fstW D).1 < n) := fun h => by rw [← hnn, hlen]; exact (fst_hit h).1
  have hlt0 : (n : Int) ≤ 4096 := by have := hs.len; omega
  have HG : Hid (∀ (i : Nat) (w' : World), i < n → IRow w' aa ats → ∃ g o, aa = some ⟨g, o, none⟩ ∧ w'.cell? ⟨g, o + i, none⟩ = some (.int .i64 (ats.getD i 0))) := fun i w' h1 h2 => by
    obtain ⟨g, o, e1, -, e2⟩ := h2 i (by omega)
    exact ⟨g, o, e1, e2⟩
  rw [hnn] at HS
  clear hlen HX
  unfold fstV at RD
  unfold TrPost
  rw [hnn]
  clear hn hi h hs hrow hnn
  generalize (fstW D).2 = q at *
  generalize (fstW D).1 = i at *
  obtain ⟨x, hx⟩ : ∃ x, ats.getD i 0 = x := ⟨_, rfl⟩
  have HG : Hid (∀ (w' : World), i < n → IRow w' aa ats → ∃ g o, aa = some ⟨g, o, none⟩ ∧ w'.cell? ⟨g, o + i, none⟩ = some (.int .i64 x)) := fun w' h1 h2 => by
    have := HG.out i w' h1 h2
    rw [hx] at this; exact this
  rw [hx]
  clear hx
  go_enter Tryz.func36, Tryz.ntmps36
  go_wp2_with fail
  refine RD.out.mono ?_; rintro e w1 ⟨rfl, hb⟩
  have HS1 := Lib.hid (HS.out.later hb)
  have HN1 := Lib.hid (HN.out.later hb)
  have HI1 := Lib.hid (HI.out.later hb)
  have HKB : Hid (KeepB b w w1) := KeepB.of hb
  clear hb e0 HS HN HI RD
  cases q with
  | false =>
    clear HIT
    go_wp2
    go_ret2
    exact ⟨by simp, HS1.out, HN1.out, HKB.out⟩
  | true =>
    have hlt := HIT.out rfl
    clear HIT
    have e3 := HS1.out.box.cell 3
    simp at e3
    obtain ⟨g, o, rfl, e4⟩ := HG.out w1 hlt HI1.out
    clear HG HI1
    have h0 : (0 : Int) ≤ (i : Int) := by omega
    have hi2 : (i : Int) < (n : Int) := by omega
    go_upto_region 3 with (fail)
    go_quiet (fail)
    go_wp2
    go_ret2
    exact ⟨by simp, ⟨HS1.out.bel.trans (drewV _ _ _), HS1.out.low, HS1.out.box.later (drewV _ _ _)⟩, HN1.out.later (drewV _ _ _), fun c cs t hne h => (HKB.out c cs t hne h).later (drewV _ _ _)⟩
/-- The three ways. -/
def wayC : Array Value := #[.func (.func 34) #[] #[], .func (.func 35) #[] #[], .func (.func 36) #[] #[]]
def WysP (w : World) (e : Ending) (w' : World) : Prop := ∃ g, e = .returned (.slice (some ⟨g, 0, none⟩) 3 3) ∧ Blk w' g wayC 53 ∧ Below w.heap.size w w'
set_option maxHeartbeats 4000000 in
theorem ways_any (w : World) : Calls Tryz.prog 21 #[] w (WysP w) := by
  unfold WysP
  go_enter Tryz.func21, Tryz.ntmps21
  go_wp2
  go_ret
  exact ⟨_, rfl, Blk.new _ _ _, (Below.refl _ _).alloc (Nat.le_refl _) _⟩
/-- What Read answers. -/
def PVal (w : World) (r : VR) (e : Ending) (w' : World) : Prop := match r with
  | .ok D => ∃ nv, e = .returned (.tuple #[.agg #[nv], .int .i64 0, .int .i64 0]) ∧ OwnN w' w.heap.size nv D ∧ Below w.heap.size w w'
  | .bad er p => e = .returned (.tuple #[.agg #[.slice none 0 0], .int .i64 er, .int .i64 p]) ∧ Below w.heap.size w w'
/-- Behind so many of the ways. -/
inductive StK (w0 : World) (b : Nat) (l : List UInt8) (w : World) : Nat → Prop
  | zero (h : RgS w0 b l (.slice none 0 0) (.slice none 0 0) (.slice none 0 0) w) : StK w0 b l w 0
  | one {r : List Tok} {A : Option Addr} {c : Nat} (hr : readL l 0 0 = .ok r) (ht : TRow w A r) (h : RgS w0 b l (.slice A r.length c) (.slice none 0 0) (.slice none 0 0) w) : StK w0 b l w 1
  | two {r : List Tok} {k : Int} {t : PS} {tv nv av : Value} (hr : readL l 0 0 = .ok r) (hp : parseP (r.map tkOfT) = .ok k t) (hn : OwnN w w0.heap.size nv t.nodes) (hi : OwnI w w0.heap.size av t.ats) (h : RgS w0 b l tv nv av w) : StK w0 b l w 2
  | three {D : List Nd} {tv nv av : Value} (hv : validL l = .ok D) (hn : OwnN w w0.heap.size nv D) (h : RgS w0 b l tv nv av w) : StK w0 b l w 3
theorem StK.later {w0 w w' : World} {b k : Nat} {l : List UInt8} (h : StK w0 b l w k) (hb : Below w.heap.size w w') : StK w0 b l w' k := by
  cases h with
  | zero h => exact .zero (h.later hb)
  | one hr ht h => exact .one hr (ht.later hb) (h.later hb)
  | two hr hp hn hi h => exact .two hr hp (hn.later hb) (hi.later hb) (h.later hb)
  | three hv hn h => exact .three hv (hn.later hb) (h.later hb)
theorem StK.bel {w0 w : World} {b k : Nat} {l : List UInt8} (h : StK w0 b l w k) : Below w0.heap.size w0 w := by cases h <;> (rename_i h; exact h.bel)
/-- What a way of it does. -/
def StepP (w0 : World) (b : Nat) (l : List UInt8) (k : Nat) (w : World) (e : Ending) (w' : World) : Prop :=
  ((e = .returned (.tuple #[.int .i64 0, .int .i64 0]) ∧ StK w0 b l w' (k + 1)) ∨ (∃ er p, er ≠ 0 ∧ validL l = .bad er p ∧ e = .returned (.tuple #[.int .i64 er, .int .i64 p]) ∧ Below w0.heap.size w0 w')) ∧ KeepB b w w'
theorem step_any {l : List UInt8} (hl : l.length ≤ 10000000) {w0 : World} (hU : U8T w0) {b k : Nat} {w : World} (hk : k < 3) (h : StK w0 b l w k) :
    ∃ f, wayC[k]? = some (.func (.func f) #[] #[]) ∧ (∀ args w, (callFunc f args).run Tryz.prog w = .ok (.enter f args) w) ∧ Calls Tryz.prog f #[.pointer (some ⟨b, 0, none⟩)] w (StepP w0 b l k w) := by
  cases h with
  | zero h =>
    refine ⟨34, rfl, enters_of Tryz.func34 (by kernel_rfl) rfl, (totok_any (by omega) hU w h).mono fun e w' hp => ?_⟩
    unfold TtPost at hp
    cases hr : readL l 0 0 with
    | ok r => rw [hr] at hp; obtain ⟨A, c, he, ht, hg, hk⟩ := hp; exact ⟨.inl ⟨he, .one hr ht hg⟩, hk⟩
    | error z =>
      obtain ⟨f, q⟩ := z
      rw [hr] at hp
      obtain ⟨he, hg, hk⟩ := hp
      have := (valid_bad (validL_err hr)).1
      exact ⟨.inr ⟨f, q, by omega, validL_err hr, he, hg.bel⟩, hk⟩
  | @one r A c hr ht h =>
    have hlen := readL_len hr
    have hP := parse_any (toks_txtV hr (by omega)) (readL_ends hr) (by rw [List.length_map]; omega) A c w (hrow_tk ht)
    rw [List.length_map] at hP
    refine ⟨35, rfl, enters_of Tryz.func35 (by kernel_rfl) rfl, (tonode_any w h hP (parse_not_out _)).mono fun e w' hp => ?_⟩
    unfold TnPost at hp
    cases hpp : parseP (r.map tkOfT) with
    | out => rw [hpp] at hp; exact hp.elim
    | ok j t => rw [hpp] at hp; obtain ⟨nv, av, he, hn, hi, hg, hk⟩ := hp; exact ⟨.inl ⟨he, .two hr hpp hn hi hg⟩, hk⟩
    | bad er p =>
      rw [hpp] at hp
      obtain ⟨he, hg, hk⟩ := hp
      have hv : validL l = .bad er p := by rw [validL_tok hr, toksR_bad hpp]
      have := (valid_bad hv).1
      exact ⟨.inr ⟨er, p, by omega, hv, he, hg.bel⟩, hk⟩
  | three hv hn h => omega
  | @two r j t tv nv av hr hpp hn hi h =>
    obtain ⟨f1, f2, f3, f4⟩ := parse_vok hr hpp
    have hs : Sm t.nodes := ⟨f1, f2, fun n hn => Nat.le_trans (f4 n hn) (by omega)⟩
    refine ⟨36, rfl, enters_of Tryz.func36 (by kernel_rfl) rfl, (toright_any hs (ats_star (readL_ends hr) hpp).1 w h hn hi).mono fun e w' hp => ?_⟩
    obtain ⟨h1, h2, h3, hk⟩ := hp
    have hv : validL l = nullR t := by rw [validL_tok hr, toksR_ok hpp]
    unfold nullR at hv
    by_cases hf : (fstW t.nodes).2 = true
    · rw [if_pos hf] at h1 hv
      exact ⟨.inr ⟨10, _, by omega, hv, h1, h2.bel⟩, hk⟩
    · rw [if_neg hf] at h1 hv
      exact ⟨.inl ⟨h1, .three hv h3 h2⟩, hk⟩
def RvL (w0 : World) (g b bd : Nat) (l : List UInt8) (x : Value) (w : World) : Prop := ∃ k : Nat, k ≤ 3 ∧ x = .int .i64 (k : Int) ∧ Blk w g wayC 53 ∧ Blk w bd #[.slice none 0 0] 25 ∧ w0.heap.size ≤ bd ∧ StK w0 b l w k
theorem StK.blk {w0 w : World} {b k : Nat} {l : List UInt8} (h : StK w0 b l w k) : ∃ cs, Blk w b cs 48 := by cases h <;> (rename_i h; exact ⟨_, h.box⟩)
theorem way_ne {w0 w : World} {b k g : Nat} {l : List UInt8} {cs : Array Value} (h : StK w0 b l w k) (hg : Blk w g cs 53) : g ≠ b := by
  obtain ⟨us, hu⟩ := h.blk
  exact Blk.typed2 hg hu (by decide)
theorem desc_ne {w0 w : World} {b k g : Nat} {l : List UInt8} {cs : Array Value} (h : StK w0 b l w k) (hg : Blk w g cs 25) : g ≠ b := by
  obtain ⟨us, hu⟩ := h.blk
  exact Blk.typed2 hg hu (by decide)
set_option maxHeartbeats 32000000 in
theorem vread_any {l : List UInt8} (hl : l.length ≤ 10000000) (w : World) (hU : U8T w) : Calls Tryz.prog 8 #[.string (bs l)] w (PVal w (validL l)) := by
  have ST : Hid (∀ (b k : Nat) (w' : World), k < 3 → StK w b l w' k → ∃ f, wayC[k]? = some (.func (.func f) #[] #[]) ∧ (∀ args w, (callFunc f args).run Tryz.prog w = .ok (.enter f args) w) ∧ Calls Tryz.prog f #[.pointer (some ⟨b, 0, none⟩)] w' (StepP w b l k w')) := fun b k w' hk h => step_any hl hU hk h
  clear hU
  go_enter Tryz.func8, Tryz.ntmps8
  go_upto_region 2 with (fail)
  have hb1 := (Below.refl w.heap.size w).alloc (Nat.le_refl _) (.cells #[.slice none 0 0] 25)
  have hb2 := hb1.alloc hb1.size (.cells #[.string (bs l), .slice none 0 0, .slice none 0 0, .slice none 0 0] 48)
  have hk1 := (Blk.new w #[.slice none 0 0] 25).alloc (.cells #[.string (bs l), .slice none 0 0, .slice none 0 0, .slice none 0 0] 48)
  have hk2 := Blk.new' (w := w.alloc (.cells #[.slice none 0 0] 25)) (b := w.heap.size + 1) (by simp) #[.string (bs l), .slice none 0 0, .slice none 0 0, .slice none 0 0] 48
  have HS0 : Hid (StK w (w.heap.size + 1) l _ 0) := .zero ⟨hb2, Nat.le_succ _, hk2⟩
  have HD0 := Lib.hid hk1
  have HLO : Hid (w.heap.size ≤ w.heap.size) := Nat.le_refl _
  clear hb1 hb2 hk1 hk2
  generalize (w.alloc (.cells #[.slice none 0 0] 25)).alloc (.cells #[.string (bs l), .slice none 0 0, .slice none 0 0, .slice none 0 0] 48) = w1 at *
  generalize w.heap.size + 1 = b at *
  obtain ⟨bd, hbd⟩ : ∃ bd, bd = w.heap.size := ⟨_, rfl⟩
  rw [← hbd] at HD0 ⊢
  have HLO : Hid (w.heap.size ≤ bd) := by rw [hbd]; exact Nat.le_refl _
  clear hbd
  go_wp2_with fail
  refine (ways_any _).mono ?_; rintro e w2 ⟨g, rfl, hg, hb⟩
  have HS2 := Lib.hid (HS0.out.later hb)
  have HD2 := Lib.hid (HD0.out.later hb)
  have HG2 := Lib.hid hg
  clear hg hb HS0 HD0
  go_wp2
  have HL : Hid (RvL w g b bd l (.int .i64 0) w2) := ⟨0, Nat.zero_le _, rfl, HG2.out, HD2.out, HLO.out, HS2.out⟩
  clear HG2 HD2 HS2
  go_loopw [14] (RvL w g b bd l) (fun x _ => 3 - (intOf x).toNat)
  case atStart => exact HL.out
  case round =>
    obtain ⟨k, hk, rfl, hg, hd, hbd, hst⟩ := hrel
    have HS := Lib.hid hst
    have HD := Lib.hid hd
    have HG := Lib.hid hg
    clear hst hd hg hbd HL
    by_cases hlt : k < 3
    · obtain ⟨f, hf, hent, -⟩ := ST.out b k wr hlt HS.out
      have hlow := HS.out.bel.size
      have hb2 := (Below.refl wr.heap.size wr).alloc (Nat.le_refl _) (.cells #[.func (.func f) #[] #[]] 53)
      have HS2 := Lib.hid (HS.out.later hb2)
      have HD2 := Lib.hid (HD.out.later hb2)
      have HG2 := Lib.hid (HG.out.later hb2)
      have HW := Lib.hid (Blk.new wr #[.func (.func f) #[] #[]] 53)
      have gk := HG.out.cell k
      rw [hf] at gk
      have hkz : (k : Int) < 3 := by omega
      have HF := Lib.hid hf
      clear hb2 HS HD HG hf hent
      go_upto_region 5 with (fail)
      clear gk
      generalize wr.alloc (.cells #[.func (.func f) #[] #[]] 53) = w3 at *
      generalize wr.heap.size = bx at *
      obtain ⟨f', hf', hent, hcall⟩ := ST.out b k w3 hlt HS2.out
      have hff : f' = f := by have := HF.out; rw [hf'] at this; cases this; rfl
      subst hff
      have HC := Lib.hid hcall
      have NG : Hid (g ≠ b) := way_ne HS2.out HG2.out
      have ND : Hid (bd ≠ b) := desc_ne HS2.out HD2.out
      clear hcall hf' HF
      have e0 := HW.out.cell 0
      simp at e0
      go_wp2_with fail
      refine HC.out.mono ?_; intro e w4 hp
      obtain ⟨hp, hkb⟩ := hp
      have HG4 := Lib.hid (hkb _ _ _ NG.out HG2.out)
      have HD4 := Lib.hid (hkb _ _ _ ND.out HD2.out)
      clear hkb HG2 HD2 HC e0 HW HS2
      rcases hp with ⟨rfl, hst⟩ | ⟨er, p, hne, hv, rfl, hb⟩
      · have HST := Lib.hid hst
        clear hst hent
        go_wp2
        go_roundw
        case rel => exact ⟨k + 1, hlt, by go_num, HG4.out, HD4.out, HLO.out, HST.out⟩
        case measure => simp [intOf]; omega
      · have HV := Lib.hid hv
        have HB := Lib.hid hb
        have hz : (er != 0) = true := by rw [bne_iff_ne]; exact hne
        have d0 := HD4.out.cell 0
        have d1 := HD4.out.frozen 0
        simp at d0
        clear hv hb hent hne
        go_wp2
        exact bodyPost_ret (v := .tuple #[.agg #[.slice none 0 0], .int .i64 er, .int .i64 p]) (by simp [results, Tryz.results8, go_sem, d0, d1]) rfl (by rw [HV.out]; exact ⟨rfl, HB.out.setCell (p := ⟨bd, 0, none⟩) HLO.out _⟩)
    · obtain rfl : k = 3 := by omega
      obtain ⟨D, tv, nv, av, hv, hn, hrg⟩ : ∃ D tv nv av, validL l = .ok D ∧ OwnN wr w.heap.size nv D ∧ RgS w b l tv nv av wr := by
        cases HS.out with
        | three h1 h2 h3 => exact ⟨_, _, _, _, h1, h2, h3⟩
      obtain ⟨an, kn, rfl, -⟩ := hn.row
      have HV := Lib.hid hv
      have HN := Lib.hid hn
      have HR := Lib.hid hrg
      have e2 := hrg.box.cell 2
      simp at e2
      have d0 := HD.out.cell 0
      have d1 := HD.out.frozen 0
      simp at d0
      have hlast : ¬ ((3 : Nat) : Int) < 3 := by omega
      clear hv hn hrg HS
      go_wp2
      exact bodyPost_ret (v := .tuple #[.agg #[.slice an D.length kn], .int .i64 0, .int .i64 0]) (by simp [results, Tryz.results8, go_sem, d0, d1]) rfl (by rw [HV.out]; exact ⟨_, rfl, own_set HN.out (own_typed HN.out HD.out (by decide)) _, HR.out.bel.setCell (p := ⟨bd, 0, none⟩) HLO.out _⟩)
theorem vr_code {l : List UInt8} {er p : Int} (h : validL l = .bad er p) : er ≠ 0 := by have := (valid_bad h).1; omega
set_option maxHeartbeats 8000000 in
theorem vis_any {l : List UInt8} (hl : l.length ≤ 10000000) (w : World) (hU : U8T w) {x : Bool} (hx : vrOk (validL l) = x) : Calls Tryz.prog 11 #[.string (bs l)] w (Ans w (.bool x)) := by
  have RD := Lib.hid (vread_any hl w hU)
  have HZ : Hid (∀ er p, validL l = .bad er p → er ≠ 0) := fun er p h => vr_code h
  clear hU
  subst hx
  generalize validL l = r at *
  generalize bs l = s at *
  cases r with
  | ok D =>
    clear HZ
    go_enter Tryz.func11, Tryz.ntmps11
    go_wp2_with fail
    refine RD.out.mono ?_; rintro e w1 ⟨nv, rfl, hn, hb⟩
    have HB := Lib.hid hb
    obtain ⟨an, kn, rfl, -⟩ := hn.row
    clear hb hn RD
    go_wp2
    go_ret
    exact ⟨rfl, HB.out.trans ((Below.refl _ _).alloc HB.out.size _)⟩
  | bad er p =>
    have hz2 : (er == 0) = false := beq_false_of_ne (HZ.out er p rfl)
    clear HZ
    go_enter Tryz.func11, Tryz.ntmps11
    go_wp2_with fail
    refine RD.out.mono ?_; rintro e w1 ⟨rfl, hb⟩
    have HB := Lib.hid hb
    clear hb RD
    go_wp2
    go_ret
    exact ⟨rfl, HB.out.trans ((Below.refl _ _).alloc HB.out.size _)⟩
end Go.Proofs.YtcgjmnhmhiddkaaGreatDoor
/- The anchor of layer 9. -/
namespace Go.Proofs.YtcgjmnhmhiddkaaGreatDoor
open Go Go.RowKit
set_option linter.unusedVariables false
set_option linter.unusedSimpArgs false
set_option maxRecDepth 100000

structure A9S (w0 : World) (b : Nat) (an : Option Addr) (kn : Nat) (D : List Nd) (w : World) : Prop where
  bel : Below w0.heap.size w0 w
  box : Blk w b #[.slice an 5 kn] 25
  row : NRow w an D
  u : U8T w
theorem A9S.later {w0 w w' : World} {b : Nat} {an : Option Addr} {kn : Nat} {D : List Nd} (h : A9S w0 b an kn D w) (hb : Below w.heap.size w w') : A9S w0 b an kn D w' := ⟨h.bel.trans (hb.mono h.bel.size), h.box.later hb, h.row.later hb, h.u.later hb⟩
theorem A9S.step {w0 w w' : World} {b : Nat} {an : Option Addr} {kn : Nat} {D : List Nd} (h : A9S w0 b an kn D w) (hb : Below w.heap.size w w') (cs : Array Value) (t : TypeId) : A9S w0 b an kn D (w'.alloc (.cells cs t)) := h.later (hb.trans ((Below.refl _ _).alloc hb.size _))
set_option maxHeartbeats 16000000 in
theorem awake9_any (w : World) (hU : U8T w) : Calls Tryz.prog 7 #[] w (Ans w (.bool true)) := by
  obtain ⟨D, hv, hlen, hkind⟩ := aw9_ok
  have RA : Hid (∀ w, U8T w → Calls Tryz.prog 8 #[.string ⟨#[60, 54, 49, 62, 42, 98, 40, 46, 41]⟩] w (PVal w (.ok D))) := fun w h => by
    have q := vread_any (l := [60, 54, 49, 62, 42, 98, 40, 46, 41]) (by decide) w h
    rw [hv] at q; exact q
  have RB : Hid (∀ w, U8T w → Calls Tryz.prog 8 #[.string ⟨#[40, 46, 42, 41, 42]⟩] w (PVal w (.bad 10 4))) := fun w h => by
    have q := vread_any (l := [40, 46, 42, 41, 42]) (by decide) w h
    rw [aw9_b] at q; exact q
  have RC : Hid (∀ w, U8T w → Calls Tryz.prog 8 #[.string ⟨#[46, 32, 97]⟩] w (PVal w (.bad 1 2))) := fun w h => by
    have q := vread_any (l := [46, 32, 97]) (by decide) w h
    rw [aw9_c] at q; exact q
  have RD : Hid (∀ w, U8T w → Calls Tryz.prog 8 #[.string ⟨#[40, 46, 32]⟩] w (PVal w (.bad 6 0))) := fun w h => by
    have q := vread_any (l := [40, 46, 32]) (by decide) w h
    rw [aw9_d] at q; exact q
  have IE : Hid (∀ w, U8T w → Calls Tryz.prog 11 #[.string ⟨#[46]⟩] w (Ans w (.bool true))) := fun w h => vis_any (l := [46]) (by decide) w h aw9_e
  have IF_ : Hid (∀ w, U8T w → Calls Tryz.prog 11 #[.string ⟨#[]⟩] w (Ans w (.bool false))) := fun w h => vis_any (l := []) (by decide) w h aw9_f
  have IG : Hid (∀ w, U8T w → Calls Tryz.prog 11 #[.string ⟨#[40, 41, 123, 49, 44, 50, 125]⟩] w (Ans w (.bool false))) := fun w h => vis_any (l := [40, 41, 123, 49, 44, 50, 125]) (by decide) w h aw9_g
  have HU := Lib.hid hU
  have HLEN := Lib.hid hlen
  have HKIND := Lib.hid hkind
  clear hU hv hlen hkind
  go_enter Tryz.func7, Tryz.ntmps7
  go_wp2_with fail
  refine (RA.out _ HU.out).mono ?_; rintro e w1 ⟨nv, rfl, hn, hb⟩
  obtain ⟨an, kn, rfl, hrow⟩ := hn.row
  rw [HLEN.out]
  have HS1 : Hid (A9S w w1.heap.size an kn D (w1.alloc (.cells #[.slice an 5 kn] 25))) := by
    have h2 := hb.trans ((Below.refl _ _).alloc hb.size (.cells #[.slice an 5 kn] 25))
    exact ⟨h2, Blk.new _ _ _, hrow.later ((Below.refl _ _).alloc (Nat.le_refl _) _), HU.out.later h2⟩
  clear hb hrow hn RA HU
  go_upto_region 2 with (fail)
  generalize w1.alloc (.cells #[.slice an 5 kn] 25) = w2 at *
  generalize w1.heap.size = b at *
  go_wp2_with fail
  refine (RB.out _ HS1.out.u).mono ?_; rintro e w3 ⟨rfl, hb⟩
  have HS3 := Lib.hid (HS1.out.step hb #[.slice none 0 0] 25)
  clear hb HS1 RB
  go_upto_region 3 with (fail)
  generalize w3.alloc (.cells #[.slice none 0 0] 25) = w4 at *
  go_wp2_with fail
  refine (RC.out _ HS3.out.u).mono ?_; rintro e w5 ⟨rfl, hb⟩
  have HS5 := Lib.hid (HS3.out.step hb #[.slice none 0 0] 25)
  clear hb HS3 RC
  go_upto_region 4 with (fail)
  generalize w5.alloc (.cells #[.slice none 0 0] 25) = w6 at *
  go_wp2_with fail
  refine (RD.out _ HS5.out.u).mono ?_; rintro e w7 ⟨rfl, hb⟩
  have HS7 := Lib.hid (HS5.out.step hb #[.slice none 0 0] 25)
  clear hb HS5 RD
  go_upto_region 5 with (fail)
  generalize w7.alloc (.cells #[.slice none 0 0] 25) = w8 at *
  have e0 := HS7.out.box.cell 0
  simp at e0
  have h4 : 4 < D.length := by rw [HLEN.out]; decide
  obtain ⟨ba, oa, hAe, -, -⟩ := HS7.out.row 4 h4
  subst hAe
  have g : At10 w8 ba (oa + 4 * 10) (D.getD 4 nd0) := HS7.out.row.at h4 rfl
  have hk : (D.getD 4 nd0).kind = 4 := HKIND.out
  have g0 := g.1
  rw [hk] at g0
  clear g hk h4
  go_wp2_with fail
  refine (IE.out _ HS7.out.u).mono ?_; rintro e y1 ⟨rfl, hb⟩
  have HY1 := Lib.hid (HS7.out.later hb)
  clear hb HS7 IE e0 g0
  go_wp2_with fail
  refine (IF_.out _ HY1.out.u).mono ?_; rintro e y2 ⟨rfl, hb⟩
  have HY2 := Lib.hid (HY1.out.later hb)
  clear hb HY1 IF_
  go_wp2_with fail
  refine (IG.out _ HY2.out.u).mono ?_; rintro e y3 ⟨rfl, hb⟩
  have HY3 := Lib.hid (HY2.out.later hb)
  clear hb HY2 IG
  go_wp2
  go_ret
  exact ⟨rfl, HY3.out.bel⟩
end Go.Proofs.YtcgjmnhmhiddkaaGreatDoor
/- The table of kinds: walked. -/
namespace Go.Proofs.YtcgjmnhmhiddkaaGreatDoor
open Go Go.RowKit
set_option linter.unusedVariables false
set_option linter.unusedSimpArgs false
set_option maxRecDepth 100000

def kV (l : Int) (f : FuncId) : Value := .agg #[.int .i64 l, .func (.func f) #[] #[]]
def fV (b : Nat) : Value := .agg #[.int .i64 3, frV b]
def kL7 : List (Int × Value) := [(1, kV 3 71), (2, kV 3 72), (3, kV 3 75), (4, kV 1 76), (5, kV 0 77), (6, kV 2 78), (7, kV 2 79)]
def kL9 (b8 b9 : Nat) : List (Int × Value) := kL7 ++ [(8, fV b8), (9, fV b9)]
/-- The table of kinds. -/
def KnM (m : Nat) (w : World) : Prop := ∃ b8 b9, IsMapK w m (kL9 b8 b9) ∧ Blk w b8 #[.string (bs [98])] 9 ∧ Blk w b9 #[.string (bs [119])] 9
theorem blk_put {w : World} {m b : Nat} {vs : Array Value} {t : TypeId} {l l' : List (Int × Value)} (hm : IsMapK w m l) (h : Blk w b vs t) : Blk (putMapK w m l') b vs t := by
  have hne : b ≠ m := fun e => by
    unfold Blk at h; unfold IsMapK at hm
    rw [e, hm] at h; cases h
  exact (putMapK_other hne l').trans h
theorem put_step {w0 w : World} {m : Nat} {l l' : List (Int × Value)} (hb : Below w0.heap.size w0 w) (hlow : w0.heap.size ≤ m) (hm : IsMapK w m l) : Below w0.heap.size w0 (putMapK w m l') ∧ IsMapK (putMapK w m l') m l' := ⟨putMapK_below hb hlow l', putMapK_is hm.lt l'⟩
set_option maxHeartbeats 16000000 in
theorem kinds_any (w : World) : Calls Tryz.prog 46 #[] w (fun e w' => ∃ m, e = .returned (.map (some m)) ∧ KnM m w' ∧ Below w.heap.size w w') := by
  have hmm := @run_makeMap Tryz.prog
  have HB0 : Hid (Below w.heap.size w (w.alloc (.map #[] 0))) := (Below.refl _ _).alloc (Nat.le_refl _) _
  have HM0 : Hid (IsMapK (w.alloc (.map #[] 0)) w.heap.size []) := by unfold Hid IsMapK mapEsK; show (w.heap.push _)[w.heap.size]? = _; simp
  have hlow : w.heap.size ≤ w.heap.size := Nat.le_refl _
  obtain ⟨w1, hw1⟩ : ∃ w1, w1 = putMapK (w.alloc (.map #[] 0)) w.heap.size [(1, kV 3 71)] := ⟨_, rfl⟩
  have hu1 : (Instr.mapUpdate 88 (.map (some w.heap.size)) (.int .i64 1) (.agg #[.int .i64 3, .func (.func 71) #[] #[]])).run Tryz.prog (w.alloc (.map #[] 0)) = .ok () w1 := by
    rw [hw1]; exact run_update_int (w.alloc (.map #[] 0)) w.heap.size [] 1 (kV 3 71) HM0.out rfl
  have HB1 : Hid (Below w.heap.size w w1) := by rw [hw1]; exact (put_step HB0.out hlow HM0.out).1
  have HM1 : Hid (IsMapK w1 w.heap.size [(1, kV 3 71)]) := by rw [hw1]; exact (put_step HB0.out hlow HM0.out).2
  clear hw1
  obtain ⟨w2, hw2⟩ : ∃ w2, w2 = putMapK w1 w.heap.size [(1, kV 3 71), (2, kV 3 72)] := ⟨_, rfl⟩
  have hu2 : (Instr.mapUpdate 88 (.map (some w.heap.size)) (.int .i64 2) (.agg #[.int .i64 3, .func (.func 72) #[] #[]])).run Tryz.prog w1 = .ok () w2 := by
    rw [hw2]; exact run_update_int w1 w.heap.size [(1, kV 3 71)] 2 (kV 3 72) HM1.out rfl
  have HB2 : Hid (Below w.heap.size w w2) := by rw [hw2]; exact (put_step HB1.out hlow HM1.out).1
  have HM2 : Hid (IsMapK w2 w.heap.size [(1, kV 3 71), (2, kV 3 72)]) := by rw [hw2]; exact (put_step HB1.out hlow HM1.out).2
  clear hw2
  obtain ⟨w3, hw3⟩ : ∃ w3, w3 = putMapK w2 w.heap.size [(1, kV 3 71), (2, kV 3 72), (3, kV 3 75)] := ⟨_, rfl⟩
  have hu3 : (Instr.mapUpdate 88 (.map (some w.heap.size)) (.int .i64 3) (.agg #[.int .i64 3, .func (.func 75) #[] #[]])).run Tryz.prog w2 = .ok () w3 := by
    rw [hw3]; exact run_update_int w2 w.heap.size [(1, kV 3 71), (2, kV 3 72)] 3 (kV 3 75) HM2.out rfl
  have HB3 : Hid (Below w.heap.size w w3) := by rw [hw3]; exact (put_step HB2.out hlow HM2.out).1
  have HM3 : Hid (IsMapK w3 w.heap.size [(1, kV 3 71), (2, kV 3 72), (3, kV 3 75)]) := by rw [hw3]; exact (put_step HB2.out hlow HM2.out).2
  clear hw3
  obtain ⟨w4, hw4⟩ : ∃ w4, w4 = putMapK w3 w.heap.size [(1, kV 3 71), (2, kV 3 72), (3, kV 3 75), (4, kV 1 76)] := ⟨_, rfl⟩
  have hu4 : (Instr.mapUpdate 88 (.map (some w.heap.size)) (.int .i64 4) (.agg #[.int .i64 1, .func (.func 76) #[] #[]])).run Tryz.prog w3 = .ok () w4 := by
    rw [hw4]; exact run_update_int w3 w.heap.size [(1, kV 3 71), (2, kV 3 72), (3, kV 3 75)] 4 (kV 1 76) HM3.out rfl
  have HB4 : Hid (Below w.heap.size w w4) := by rw [hw4]; exact (put_step HB3.out hlow HM3.out).1
  have HM4 : Hid (IsMapK w4 w.heap.size [(1, kV 3 71), (2, kV 3 72), (3, kV 3 75), (4, kV 1 76)]) := by rw [hw4]; exact (put_step HB3.out hlow HM3.out).2
  clear hw4
  obtain ⟨w5, hw5⟩ : ∃ w5, w5 = putMapK w4 w.heap.size [(1, kV 3 71), (2, kV 3 72), (3, kV 3 75), (4, kV 1 76), (5, kV 0 77)] := ⟨_, rfl⟩
  have hu5 : (Instr.mapUpdate 88 (.map (some w.heap.size)) (.int .i64 5) (.agg #[.int .i64 0, .func (.func 77) #[] #[]])).run Tryz.prog w4 = .ok () w5 := by
    rw [hw5]; exact run_update_int w4 w.heap.size [(1, kV 3 71), (2, kV 3 72), (3, kV 3 75), (4, kV 1 76)] 5 (kV 0 77) HM4.out rfl
  have HB5 : Hid (Below w.heap.size w w5) := by rw [hw5]; exact (put_step HB4.out hlow HM4.out).1
  have HM5 : Hid (IsMapK w5 w.heap.size [(1, kV 3 71), (2, kV 3 72), (3, kV 3 75), (4, kV 1 76), (5, kV 0 77)]) := by rw [hw5]; exact (put_step HB4.out hlow HM4.out).2
  clear hw5
  obtain ⟨w6, hw6⟩ : ∃ w6, w6 = putMapK w5 w.heap.size [(1, kV 3 71), (2, kV 3 72), (3, kV 3 75), (4, kV 1 76), (5, kV 0 77), (6, kV 2 78)] := ⟨_, rfl⟩
  have hu6 : (Instr.mapUpdate 88 (.map (some w.heap.size)) (.int .i64 6) (.agg #[.int .i64 2, .func (.func 78) #[] #[]])).run Tryz.prog w5 = .ok () w6 := by
    rw [hw6]; exact run_update_int w5 w.heap.size [(1, kV 3 71), (2, kV 3 72), (3, kV 3 75), (4, kV 1 76), (5, kV 0 77)] 6 (kV 2 78) HM5.out rfl
  have HB6 : Hid (Below w.heap.size w w6) := by rw [hw6]; exact (put_step HB5.out hlow HM5.out).1
  have HM6 : Hid (IsMapK w6 w.heap.size [(1, kV 3 71), (2, kV 3 72), (3, kV 3 75), (4, kV 1 76), (5, kV 0 77), (6, kV 2 78)]) := by rw [hw6]; exact (put_step HB5.out hlow HM5.out).2
  clear hw6
  obtain ⟨w7, hw7⟩ : ∃ w7, w7 = putMapK w6 w.heap.size [(1, kV 3 71), (2, kV 3 72), (3, kV 3 75), (4, kV 1 76), (5, kV 0 77), (6, kV 2 78), (7, kV 2 79)] := ⟨_, rfl⟩
  have hu7 : (Instr.mapUpdate 88 (.map (some w.heap.size)) (.int .i64 7) (.agg #[.int .i64 2, .func (.func 79) #[] #[]])).run Tryz.prog w6 = .ok () w7 := by
    rw [hw7]; exact run_update_int w6 w.heap.size [(1, kV 3 71), (2, kV 3 72), (3, kV 3 75), (4, kV 1 76), (5, kV 0 77), (6, kV 2 78)] 7 (kV 2 79) HM6.out rfl
  have HB7 : Hid (Below w.heap.size w w7) := by rw [hw7]; exact (put_step HB6.out hlow HM6.out).1
  have HM7 : Hid (IsMapK w7 w.heap.size [(1, kV 3 71), (2, kV 3 72), (3, kV 3 75), (4, kV 1 76), (5, kV 0 77), (6, kV 2 78), (7, kV 2 79)]) := by rw [hw7]; exact (put_step HB6.out hlow HM6.out).2
  clear hw7
  go_enter Tryz.func46, Tryz.ntmps46
  go_upto_region 1 with (fail)
  go_upto_region 2 with (fail)
  clear hu1 hu2 hu3 hu4 hu5 hu6 hu7 HB1 HB2 HB3 HB4 HB5 HB6 HM1 HM2 HM3 HM4 HM5 HM6 HB0 HM0 hmm
  go_wp2_with fail
  refine (framed_any _ _).mono ?_; rintro e w8 ⟨rfl, hk, hb⟩
  have HK8 : Hid (Blk w8 w7.heap.size #[.string (bs [98])] 9) := hk
  have HB8 := Lib.hid (HB7.out.trans (hb.mono HB7.out.size))
  have HM8 : Hid (IsMapK w8 w.heap.size kL7) := HM7.out.later hb
  clear hk hb HB7 HM7
  unfold frV
  generalize w7.heap.size = b8 at *
  obtain ⟨w9, hw9⟩ : ∃ w9, w9 = putMapK w8 w.heap.size (kL7 ++ [(8, fV b8)]) := ⟨_, rfl⟩
  have hu8 : (Instr.mapUpdate 88 (.map (some w.heap.size)) (.int .i64 8) (.agg #[.int .i64 3, .func (.func 108) #[] #[.pointer (some ⟨b8, 0, none⟩)]])).run Tryz.prog w8 = .ok () w9 := by
    rw [hw9]; exact run_update_int w8 w.heap.size kL7 8 (fV b8) HM8.out rfl
  have HB9 : Hid (Below w.heap.size w w9) := by rw [hw9]; exact (put_step HB8.out hlow HM8.out).1
  have HM9 : Hid (IsMapK w9 w.heap.size (kL7 ++ [(8, fV b8)])) := by rw [hw9]; exact (put_step HB8.out hlow HM8.out).2
  have HK9 : Hid (Blk w9 b8 #[.string (bs [98])] 9) := by rw [hw9]; exact blk_put HM8.out HK8.out
  clear hw9
  go_upto_region 4 with (fail)
  clear hu8 HB8 HM8 HK8
  go_wp2_with fail
  refine (framed_any _ _).mono ?_; rintro e wA ⟨rfl, hk, hb⟩
  have HKA : Hid (Blk wA w9.heap.size #[.string (bs [119])] 9) := hk
  have HKB := Lib.hid (HK9.out.later hb)
  have HBA := Lib.hid (HB9.out.trans (hb.mono HB9.out.size))
  have HMA : Hid (IsMapK wA w.heap.size (kL7 ++ [(8, fV b8)])) := HM9.out.later hb
  clear hk hb HB9 HM9 HK9
  unfold frV
  generalize w9.heap.size = b9 at *
  obtain ⟨wB, hwB⟩ : ∃ wB, wB = putMapK wA w.heap.size (kL9 b8 b9) := ⟨_, rfl⟩
  have hu9 : (Instr.mapUpdate 88 (.map (some w.heap.size)) (.int .i64 9) (.agg #[.int .i64 3, .func (.func 108) #[] #[.pointer (some ⟨b9, 0, none⟩)]])).run Tryz.prog wA = .ok () wB := by
    rw [hwB]; exact run_update_int wA w.heap.size (kL7 ++ [(8, fV b8)]) 9 (fV b9) HMA.out rfl
  have HBB : Hid (Below w.heap.size w wB) := by rw [hwB]; exact (put_step HBA.out hlow HMA.out).1
  have HMB : Hid (KnM w.heap.size wB) := by
    rw [hwB]; exact ⟨b8, b9, (put_step HBA.out hlow HMA.out).2, blk_put HMA.out HKB.out, blk_put HMA.out HKA.out⟩
  clear hwB HBA HMA HKB HKA
  go_wp2
  go_ret
  exact ⟨_, rfl, HMB.out, HBB.out⟩
end Go.Proofs.YtcgjmnhmhiddkaaGreatDoor
/- What each calls: a kind's pieces out of the table, the one who says. -/
namespace Go.Proofs.YtcgjmnhmhiddkaaGreatDoor
open Go Go.RowKit
set_option linter.unusedVariables false
set_option linter.unusedSimpArgs false
set_option maxRecDepth 100000

/-- The one who says keeps all but rows of bytes, numbers, builders. -/
def OthK (w w' : World) : Prop := ∀ (k : Nat) (o : Obj), w.heap[k]? = some o → (∀ c fz, o ≠ Obj.cells c 5 fz) → (∀ c fz, o ≠ Obj.cells c 3 fz) → (∀ c fz, o ≠ Obj.cells c 67 fz) → w'.heap[k]? = some o
/-- .. these are kept by the one who tells. -/
def MineK (w w' : World) : Prop := w.heap.size ≤ w'.heap.size ∧ ∀ (k : Nat) (c : Array Value) (t : TypeId) (fz : Nat × Nat), w.heap[k]? = some (Obj.cells c t fz) → (t = 5 ∨ t = 3 ∨ t = 67) → w'.heap[k]? = some (Obj.cells c t fz)
theorem MineK.of {w w' : World} (h : Below w.heap.size w w') : MineK w w' := ⟨h.size, fun k c t fz hk _ => (h.block k (Array.getElem?_eq_some_iff.1 hk).1).trans hk⟩
theorem MineK.trans {a b c : World} (h : MineK a b) (k : MineK b c) : MineK a c := ⟨Nat.le_trans h.1 k.1, fun i x t fz hi ht => k.2 i x t fz (h.2 i x t fz hi ht) ht⟩
theorem MineK.set {w : World} {g : Nat} {vs : Array Value} {t : TypeId} (h : Blk w g vs t) (ht : t ≠ 5 ∧ t ≠ 3 ∧ t ≠ 67) (o : Nat) (v : Value) : MineK w (w.setCell ⟨g, o, none⟩ v) := by
  have hs : w.heap.size ≤ (w.setCell ⟨g, o, none⟩ v).heap.size := ((Below.refl 0 w).setCell (p := ⟨g, o, none⟩) (Nat.zero_le _) v).size
  refine ⟨hs, fun k c t' fz hk ht' => ?_⟩
  have hne : g ≠ k := fun e => by
    subst e
    unfold Blk at h
    rw [h] at hk
    have := Option.some.inj hk
    injection this with _ h2
    subst h2
    rcases ht' with e | e | e
    · exact ht.1 e
    · exact ht.2.1 e
    · exact ht.2.2 e
  rw [Below.heap_setCell _ _ _ _ (Ne.symm hne)]
  exact hk
theorem MineK.grown {w w' : World} {row : Option Nat} (hg : w.grownBy w' row) (hr : ∀ g, row = some g → ∃ vs t fz, w.heap[g]? = some (.cells vs t fz) ∧ t ≠ 5 ∧ t ≠ 3 ∧ t ≠ 67) : MineK w w' := by
  refine ⟨hg.size, fun k c t' fz hk ht' => ?_⟩
  rw [hg.block k (Array.getElem?_eq_some_iff.1 hk).1 (fun e => ?_)]
  · exact hk
  · obtain ⟨vs, t, fz2, h1, h2⟩ := hr k e.symm
    rw [hk] at h1
    have := Option.some.inj h1
    injection this with _ h3
    subst h3
    rcases ht' with e | e | e
    · exact h2.1 e
    · exact h2.2.1 e
    · exact h2.2.2 e
theorem OthK.blk {w w' : World} (h : OthK w w') {b : Nat} {vs : Array Value} {t : TypeId} (k : Blk w b vs t) (ht : t ≠ 5 ∧ t ≠ 3 ∧ t ≠ 67) : Blk w' b vs t :=
  h b _ k (fun c fz e => by injection e with _ h2; exact ht.1 h2) (fun c fz e => by injection e with _ h2; exact ht.2.1 h2) (fun c fz e => by injection e with _ h2; exact ht.2.2 h2)
theorem OthK.map {w w' : World} (h : OthK w w') {m : Nat} {l : List (Int × Value)} (k : IsMapK w m l) : IsMapK w' m l :=
  h m _ k (fun c fz e => by cases e) (fun c fz e => by cases e) (fun c fz e => by cases e)
theorem OthK.kn {w w' : World} (h : OthK w w') {m : Nat} (k : KnM m w) : KnM m w' := by
  obtain ⟨b8, b9, h1, h2, h3⟩ := k
  exact ⟨b8, b9, h.map h1, h.blk h2 (by decide), h.blk h3 (by decide)⟩
theorem KnM.later {m : Nat} {w w' : World} (k : KnM m w) (hb : Below w.heap.size w w') : KnM m w' := by
  obtain ⟨b8, b9, h1, h2, h3⟩ := k
  exact ⟨b8, b9, h1.later hb, h2.later hb, h3.later hb⟩
theorem KnM.set {m : Nat} {w : World} (k : KnM m w) {g : Nat} {vs : Array Value} {t : TypeId} (h : Blk w g vs t) (ht : t ≠ 9) (o : Nat) (v : Value) : KnM m (w.setCell ⟨g, o, none⟩ v) := by
  obtain ⟨b8, b9, h1, h2, h3⟩ := k
  have hm : g ≠ m := fun e => by
    subst e
    unfold Blk at h; unfold IsMapK at h1
    rw [h] at h1; cases h1
  have hs : ∀ {b : Nat} {cs : Array Value}, Blk w b cs 9 → Blk (w.setCell ⟨g, o, none⟩ v) b cs 9 := fun {b cs} hb => hb.setCell_ne (a := ⟨g, o, none⟩) (fun e => by
    subst e
    unfold Blk at h hb
    rw [h] at hb
    have := Option.some.inj hb
    injection this with _ h3
    exact ht h3) v
  exact ⟨b8, b9, (Below.heap_setCell _ _ _ _ (Ne.symm hm)).trans h1, hs h2, hs h3⟩
/-- One who says: what was said stands in S. -/
structure Sayer (B0 : Nat) (fid : FuncId) (binds : Array Value) (S : List (List UInt8) → World → Prop) : Prop where
  ent : ∀ args w, (callFunc fid args).run Tryz.prog w = .ok (.enter fid args) w
  call : ∀ out s w, S out w → B0 ≤ w.heap.size → lenO (out ++ [s]) ≤ 1000000000 → (out ++ [s]).length ≤ 1000000000 → Calls Tryz.prog fid (#[.string (bs s)] ++ binds) w (fun e w' => e = .returned (.tuple #[]) ∧ S (out ++ [s]) w' ∧ Below B0 w w' ∧ OthK w w')
  keep : ∀ out w w', S out w → MineK w w' → S out w'
/-- A node whose pieces are told. -/
structure TeOk (n : Nd) : Prop where
  kind : 1 ≤ n.kind ∧ n.kind ≤ 9
  text : n.text.length ≤ 281474976710656
  rep : n.kind = 7 → 0 ≤ n.lo ∧ n.lo ≤ 255 ∧ 0 ≤ n.hi ∧ n.hi ≤ 255
theorem findK (k : Int) (h : 1 ≤ k ∧ k ≤ 9) (b8 b9 : Nat) : ∃ i fK binds, findEK (kL9 b8 b9) k 0 = some (i, .agg #[.int .i64 (levK k), .func (.func fK) #[] binds]) ∧ (∀ args w, (callFunc fK args).run Tryz.prog w = .ok (.enter fK args) w) ∧
    ∀ n : Nd, n.kind = k → TeOk n → ∀ w, T10 w → Blk w b8 #[.string (bs [98])] 9 → Blk w b9 #[.string (bs [119])] 9 → Calls Tryz.prog fK (#[.agg (ndC n)] ++ binds) w (PcPost w (pcsN clsT bndT n)) := by
  have hk : k = 1 ∨ k = 2 ∨ k = 3 ∨ k = 4 ∨ k = 5 ∨ k = 6 ∨ k = 7 ∨ k = 8 ∨ k = 9 := by omega
  rcases hk with rfl | rfl | rfl | rfl | rfl | rfl | rfl | rfl | rfl
  · exact ⟨_, _, #[], rfl, enters_of Tryz.func71 (by kernel_rfl) rfl, fun n hn ht w h10 h8 h9 => by
      have e : pcsN clsT bndT n = brk [] := by unfold pcsN; rw [if_pos hn]
      rw [e]; exact kinds1_any n w⟩
  · exact ⟨_, _, #[], rfl, enters_of Tryz.func72 (by kernel_rfl) rfl, fun n hn ht w h10 h8 h9 => by
      have e : pcsN clsT bndT n = [.sg (clsT n.cls)] := by unfold pcsN; rw [if_neg (by rw [hn]; decide), if_pos hn]
      rw [e]; exact kinds2_any n w⟩
  · exact ⟨_, _, #[], rfl, enters_of Tryz.func75 (by kernel_rfl) rfl, fun n hn ht w h10 h8 h9 => by
      have e : pcsN clsT bndT n = [.sg (34 :: (n.text ++ [34]))] := by unfold pcsN; rw [if_neg (by rw [hn]; decide), if_neg (by rw [hn]; decide), if_pos hn]
      rw [e]; exact kinds3_any n ht.text w⟩
  · exact ⟨_, _, #[], rfl, enters_of Tryz.func76 (by kernel_rfl) rfl, fun n hn ht w h10 h8 h9 => by
      have e : pcsN clsT bndT n = [.nd n.a 1, .nd n.b 2] := by simp [pcsN, hn]
      rw [e]; exact kinds4_any n w⟩
  · exact ⟨_, _, #[], rfl, enters_of Tryz.func77 (by kernel_rfl) rfl, fun n hn ht w h10 h8 h9 => by
      have e : pcsN clsT bndT n = [.nd n.a 0, .sg [124], .nd n.b 1] := by simp [pcsN, hn]
      rw [e]; exact kinds5_any n w⟩
  · exact ⟨_, _, #[], rfl, enters_of Tryz.func78 (by kernel_rfl) rfl, fun n hn ht w h10 h8 h9 => by
      have e : pcsN clsT bndT n = [.nd n.a 2, .sg [42]] := by simp [pcsN, hn]
      rw [e]; exact kinds6_any n w⟩
  · exact ⟨_, _, #[], rfl, enters_of Tryz.func79 (by kernel_rfl) rfl, fun n hn ht w h10 h8 h9 => by
      have e : pcsN clsT bndT n = [.nd n.a 2, .sg (bndT n.lo n.hi)] := by simp [pcsN, hn]
      obtain ⟨r1, r2, r3, r4⟩ := ht.rep hn
      rw [e]; exact kinds7_any n r1 r2 r3 r4 w h10⟩
  · exact ⟨_, _, #[.pointer (some ⟨b8, 0, none⟩)], rfl, enters_of Tryz.func108 (by kernel_rfl) rfl, fun n hn ht w h10 h8 h9 => by
      have e : pcsN clsT bndT n = .sg [98] :: brk [.nd n.a 0] := by simp [pcsN, hn]
      rw [e]; exact framed1_any n b8 [98] w h8⟩
  · exact ⟨_, _, #[.pointer (some ⟨b9, 0, none⟩)], rfl, enters_of Tryz.func108 (by kernel_rfl) rfl, fun n hn ht w h10 h8 h9 => by
      have e : pcsN clsT bndT n = .sg [119] :: brk [.nd n.a 0] := by simp [pcsN, hn]
      rw [e]; exact framed1_any n b9 [119] w h9⟩
/-- A node's kind, looked up: its level, and who makes its pieces. -/
theorem kind_at (n : Nd) (hn : TeOk n) (m : Nat) (w : World) (hK : KnM m w) : ∃ fK binds, (Instr.lookup 88 (.map (some m)) (.int .i64 n.kind) true).run Tryz.prog w = .ok (.tuple #[.agg #[.int .i64 (levK n.kind), .func (.func fK) #[] binds], .bool true]) w ∧
    (∀ args w, (callFunc fK args).run Tryz.prog w = .ok (.enter fK args) w) ∧ ∀ w', Below w.heap.size w w' → T10 w' → Calls Tryz.prog fK (#[.agg (ndC n)] ++ binds) w' (PcPost w' (pcsN clsT bndT n)) := by
  obtain ⟨b8, b9, h1, h2, h3⟩ := hK
  obtain ⟨i, fK, binds, hf, he, hc⟩ := findK n.kind hn.kind b8 b9
  refine ⟨fK, binds, ?_, he, fun w' hb h10 => hc n rfl hn w' h10 (h2.later hb) (h3.later hb)⟩
  have := run_lookup_int w m _ n.kind h1
  rw [hf] at this
  exact this
end Go.Proofs.YtcgjmnhmhiddkaaGreatDoor
