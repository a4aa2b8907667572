/- The document's first that isn't right, right; all that the laws call, of descriptions wherever they stand: walked. -/
import Derived.Test.YtcgjmnhmhiddkaaDoorM33
import Derived.Test.YtcgjmnhmhiddkaaDoorM12
import Derived.Test.YtcgjmnhmhiddkaaDoorM16
import Derived.Test.YtcgjmnhmhiddkaaDoorM29
import Derived.Test.YtcgjmnhmhiddkaaDoorM23
import Derived.Laws.EntriesVeiled
namespace Go.Proofs.YtcgjmnhmhiddkaaDoor
open Go Go.RowKit
set_option linter.unusedVariables false
set_option linter.unusedSimpArgs false
set_option maxRecDepth 100000

theorem okN.intOk {l : List Nd} {i : Nat} {n : Nd} (h : okN l i n) : IntOk n := by
  obtain ⟨hb, hk⟩ := h
  unfold IntOk
  rw [← hb]; unfold backN
  rcases hk with hk | hk | ⟨hk, _⟩ | ⟨hk, _⟩ | ⟨hk, _, h1, h2, h3⟩ | ⟨hk, _⟩
  · simp [hk]
  · simp [hk]
  · simp [hk]
  · rw [if_neg (by omega), if_neg (by omega), if_neg (by omega), if_pos hk]; simp
  · rw [if_neg (by omega), if_neg (by omega), if_neg (by omega), if_neg (by omega), if_pos hk]; simp only; omega
  · rw [if_neg (by omega), if_neg (by omega), if_neg (by omega), if_neg (by omega), if_neg (by omega), if_pos hk]; simp
theorem Sm.intOk {l : List Nd} (h : Sm l) : ∀ n ∈ l, IntOk n := fun n hn => by
  obtain ⟨i, hi, rfl⟩ := h.form.at_ hn
  exact (h.form.2.1 i hi).intOk
theorem IsD.nfirst {l : List Nd} {v : Value} {w : World} (h : IsD l v w) (hs : Sm l) {x : Value} (hx : fstV l = x) : Calls Tryd.prog 14 #[v] w (Ans w x) := by
  obtain ⟨A, c, hc, rfl, hr⟩ := h
  subst hx
  exact nfirst_any l A c (by have := hs.len; omega) hs.intOk w hr
end Go.Proofs.YtcgjmnhmhiddkaaDoor
/- valid's ways, Read and Is: walked. -/
namespace Go.Proofs.YtcgjmnhmhiddkaaDoor
open Go Go.RowKit
set_option linter.unusedVariables false
set_option linter.unusedSimpArgs false
set_option maxRecDepth 100000

/-- A text's reading in its box. -/
structure RgS (w0 : World) (b : Nat) (l : List UInt8) (tv nv av : Value) (w : World) : Prop where
  bel : Below w0.heap.size w0 w
  low : w0.heap.size ≤ b
  box : Blk w b #[.string (bs l), tv, nv, av] 40
theorem RgS.later {w0 w w' : World} {b : Nat} {l : List UInt8} {tv nv av : Value} (h : RgS w0 b l tv nv av w) (hb : Below w.heap.size w w') : RgS w0 b l tv nv av w' := ⟨h.bel.trans (hb.mono h.bel.size), h.low, h.box.later hb⟩
theorem RgS.toks {w0 w : World} {b : Nat} {l : List UInt8} {tv nv av : Value} (h : RgS w0 b l tv nv av w) (v : Value) : RgS w0 b l v nv av (w.setCell ⟨b, 1, none⟩ v) := ⟨h.bel.setCell (p := ⟨b, 1, none⟩) h.low v, h.low, by simpa using h.box.setCell 1 v⟩
theorem RgS.node {w0 w : World} {b : Nat} {l : List UInt8} {tv nv av : Value} (h : RgS w0 b l tv nv av w) (v : Value) : RgS w0 b l tv v av (w.setCell ⟨b, 2, none⟩ v) := ⟨h.bel.setCell (p := ⟨b, 2, none⟩) h.low v, h.low, by simpa using h.box.setCell 2 v⟩
theorem RgS.ats {w0 w : World} {b : Nat} {l : List UInt8} {tv nv av : Value} (h : RgS w0 b l tv nv av w) (v : Value) : RgS w0 b l tv nv v (w.setCell ⟨b, 3, none⟩ v) := ⟨h.bel.setCell (p := ⟨b, 3, none⟩) h.low v, h.low, by simpa using h.box.setCell 3 v⟩
theorem drewV (B : Nat) (w : World) (n : Nat) : Below B w (w.drewN n) := ⟨rfl, rfl, rfl, Nat.le_refl _, fun _ _ => rfl⟩
/-- A row of tokens stands in no box of four cells. -/
theorem TRow.setb {w : World} {A : Option Addr} {r : List Tok} (h : TRow w A r) {b o : Nat} {cs : Array Value} {t : TypeId} (hk : Blk w b cs t) (hc : cs.size ≤ 8) (v : Value) : TRow (w.setCell ⟨b, o, none⟩ v) A r := fun i hi => by
  obtain ⟨g, off, ha, hlt, hcl⟩ := h i hi
  have hne : g ≠ b := fun e => by
    subst e
    have h8 := hcl 8 (by omega)
    rw [hk.cell, Array.getElem?_eq_none (by omega)] at h8
    unfold tokC at h8
    simp at h8
  refine ⟨g, off, ha, by simpa [World.setCell] using hlt, fun j hj => ?_⟩
  rw [World.cell?_setCell_other (h := by intro e; injection e with e1; exact hne e1.symm)]
  exact hcl j hj
/-- Other boxes are kept. -/
def KeepB (b : Nat) (w w' : World) : Prop := ∀ c cs t, c ≠ b → Blk w c cs t → Blk w' c cs t
theorem KeepB.of {b : Nat} {w w' : World} (h : Below w.heap.size w w') : KeepB b w w' := fun c cs t _ k => k.later h
theorem KeepB.set {b : Nat} {w w' : World} (h : KeepB b w w') (o : Nat) (v : Value) : KeepB b w (w'.setCell ⟨b, o, none⟩ v) := fun c cs t hne k => (h c cs t hne k).setCell_ne (a := ⟨b, o, none⟩) (Ne.symm hne) v
def TtPost (w0 : World) (b : Nat) (l : List UInt8) (nv av : Value) (w : World) (e : Ending) (w' : World) : Prop := match readL l 0 0 with
  | .ok r => ∃ A c, e = .returned (.tuple #[.int .i64 0, .int .i64 0]) ∧ TRow w' A r ∧ RgS w0 b l (.slice A r.length c) nv av w' ∧ KeepB b w w'
  | .error (f, q) => e = .returned (.tuple #[.int .i64 (f : Int), .int .i64 (q : Int)]) ∧ RgS w0 b l (.slice none 0 0) nv av w' ∧ KeepB b w w'
set_option maxHeartbeats 16000000 in
theorem totok_any {l : List UInt8} (hl : l.length ≤ 1073741823) {w0 : World} (hU : U8T w0) {b : Nat} {nv av : Value} (w : World) (h : RgS w0 b l (.slice none 0 0) nv av w) :
    Calls Tryd.prog 9 #[.pointer (some ⟨b, 0, none⟩)] w (TtPost w0 b l nv av w) := by
  have RD := Lib.hid (lexread_any l w (hU.later h.bel) hl)
  have HS := Lib.hid h
  have e0 := h.box.cell 0
  simp at e0
  clear h hU
  unfold TtPost
  cases hr : readL l 0 0 with
  | ok r =>
    have HR := Lib.hid hr
    clear hr
    go_enter Tryd.func9, Tryd.ntmps9
    go_wp2_with fail
    refine RD.out.mono ?_; intro e w1 hp
    unfold RdPost at hp
    rw [HR.out] at hp
    obtain ⟨A, c, rfl, hrow, hb, hc⟩ := hp
    have HS1 := Lib.hid (HS.out.later hb)
    have HT := Lib.hid hrow
    have HKB : Hid (KeepB b w w1) := KeepB.of hb
    clear hb hrow HS e0 RD
    have e1 := HS1.out.box.cell 1
    have f1 := HS1.out.box.frozen 1
    simp at e1
    go_wp2
    go_ret2
    exact ⟨A, c, rfl, HT.out.setb HS1.out.box (by simp) _, HS1.out.toks _, HKB.out.set _ _⟩
  | error z =>
    obtain ⟨f, q⟩ := z
    have HR := Lib.hid hr
    clear hr
    go_enter Tryd.func9, Tryd.ntmps9
    go_wp2_with fail
    refine RD.out.mono ?_; intro e w1 hp
    unfold RdPost at hp
    rw [HR.out] at hp
    obtain ⟨rfl, hb⟩ := hp
    have HS1 := Lib.hid (HS.out.later hb)
    have HKB : Hid (KeepB b w w1) := KeepB.of hb
    clear hb HS e0 RD
    have e1 := HS1.out.box.cell 1
    have f1 := HS1.out.box.frozen 1
    simp at e1
    go_wp2
    go_ret2
    exact ⟨rfl, HS1.out.toks _, HKB.out.set _ _⟩
def TnPost (w0 : World) (b : Nat) (l : List UInt8) (tv : Value) (r : PR) (w : World) (e : Ending) (w' : World) : Prop := match r with
  | .ok k t => ∃ nv av, e = .returned (.tuple #[.int .i64 0, .int .i64 0]) ∧ OwnN w' w0.heap.size nv t.nodes ∧ OwnI w' w0.heap.size av t.ats ∧ RgS w0 b l tv nv av w' ∧ KeepB b w w'
  | .bad er p => e = .returned (.tuple #[.int .i64 er, .int .i64 p]) ∧ RgS w0 b l tv (.slice none 0 0) (.slice none 0 0) w' ∧ KeepB b w w'
  | .out => False
theorem toks_txtV {l : List UInt8} {r : List Tok} (h : readL l 0 0 = .ok r) (hl : l.length ≤ 281474976710656) : TkTxt' (r.map tkOfT) := fun p => by
  by_cases hp : p < r.length
  · rw [tkT_at hp]
    have := readL_text l 0 0 r h _ (List.getElem_mem hp)
    show (r[p]'hp).text.length ≤ _
    omega
  · have : tkAt (r.map tkOfT) p = tkEnd := by unfold tkAt; rw [List.getD_eq_getElem?_getD, List.getElem?_eq_none (by rw [List.length_map]; omega)]; rfl
    rw [this]; simp [tkEnd]
theorem hrow_tk {w : World} {A : Option Addr} {r : List Tok} (h : TRow w A r) : TkRow w A (r.map tkOfT) := h.tk
set_option maxHeartbeats 16000000 in
theorem tonode_any {l : List UInt8} {r : List Tok} {p : PR} {A : Option Addr} {c : Nat} {w0 : World} {b : Nat} {nv av : Value} (w : World) (h : RgS w0 b l (.slice A r.length c) nv av w)
    (hP : Calls Tryd.prog 13 #[.slice A r.length c] w (PParse w p)) (hnot : p ≠ .out) :
    Calls Tryd.prog 10 #[.pointer (some ⟨b, 0, none⟩)] w (TnPost w0 b l (.slice A r.length c) p w) := by
  have RD := Lib.hid hP
  have HS := Lib.hid h
  have e0 := h.box.cell 1
  simp at e0
  clear h hP
  generalize r.length = n at *
  cases p with
  | out => exact absurd rfl hnot
  | ok k t =>
    unfold TnPost
    go_enter Tryd.func10, Tryd.ntmps10
    go_wp2_with fail
    refine RD.out.mono ?_; intro e w1 hp
    obtain ⟨nv', av', rfl, hn, hi, hb⟩ := hp
    have HS1 := Lib.hid (HS.out.later hb)
    have HN : Hid (OwnN w1 w0.heap.size nv' t.nodes) := own_base hn (HS.out.bel.size)
    have HI : Hid (OwnI w1 w0.heap.size av' t.ats) := own_base hi (HS.out.bel.size)
    have HKB : Hid (KeepB b w w1) := KeepB.of hb
    clear hb hn hi HS e0 RD
    obtain ⟨an', kn', rfl, -⟩ := HN.out.row
    obtain ⟨aa', ka', rfl, -⟩ := HI.out.row
    have e1 := HS1.out.box.cell 2
    have e2 := HS1.out.box.cell 3
    have f1 := HS1.out.box.frozen 2
    have f2 := HS1.out.box.frozen 3
    simp at e1 e2
    go_wp2
    go_ret2
    have g1 := HS1.out.node (.slice an' t.nodes.length kn')
    have g2 := g1.ats (.slice aa' t.ats.length ka')
    exact ⟨_, _, rfl, own_set (own_set HN.out (own_typed HN.out HS1.out.box (by decide)) _) (own_typed HN.out HS1.out.box (by decide)) _, own_set (own_set HI.out (own_typed HI.out HS1.out.box (by decide)) _) (own_typed HI.out HS1.out.box (by decide)) _, g2, (HKB.out.set _ _).set _ _⟩
  | bad er q =>
    unfold TnPost
    go_enter Tryd.func10, Tryd.ntmps10
    go_wp2_with fail
    refine RD.out.mono ?_; intro e w1 hp
    obtain ⟨rfl, hb⟩ := hp
    have HS1 := Lib.hid (HS.out.later hb)
    have HKB : Hid (KeepB b w w1) := KeepB.of hb
    clear hb HS e0 RD
    have e1 := HS1.out.box.cell 2
    have e2 := HS1.out.box.cell 3
    have f1 := HS1.out.box.frozen 2
    have f2 := HS1.out.box.frozen 3
    simp at e1 e2
    go_wp2
    go_ret2
    exact ⟨rfl, (HS1.out.node _).ats _, (HKB.out.set _ _).set _ _⟩
def TrPost (w0 : World) (b : Nat) (l : List UInt8) (tv nv av : Value) (D : List Nd) (ats : List Int) (w : World) (e : Ending) (w' : World) : Prop :=
  (if (fstW D).2 = true then e = .returned (.tuple #[.int .i64 10, .int .i64 (ats.getD (fstW D).1 0)]) else e = .returned (.tuple #[.int .i64 0, .int .i64 0])) ∧ RgS w0 b l tv nv av w' ∧ OwnN w' w0.heap.size nv D ∧ KeepB b w w'
set_option maxHeartbeats 16000000 in
theorem toright_any {l : List UInt8} {D : List Nd} {ats : List Int} (hs : Sm D) (hlen : ats.length = D.length) {w0 : World} {b : Nat} {tv nv av : Value} (w : World) (h : RgS w0 b l tv nv av w) (hn : OwnN w w0.heap.size nv D) (hi : OwnI w w0.heap.size av ats) :
    Calls Tryd.prog 11 #[.pointer (some ⟨b, 0, none⟩)] w (TrPost w0 b l tv nv av D ats w) := by
  have HN := Lib.hid hn
  have HS := Lib.hid h
  have e0 := h.box.cell 2
  simp at e0
  obtain ⟨aa, ca, rfl, hrow⟩ := hi.row
  have HI := Lib.hid hrow
  have RD := Lib.hid (hn.isD.nfirst hs rfl)
  have HX : Hid (∀ i, ats.getD i 0 = ats.getD i 0) := fun _ => rfl
  obtain ⟨n, hnn⟩ : ∃ n, ats.length = n := ⟨_, rfl⟩
  have HIT : Hid ((fstW D).2 = true → (fstW D).1 < n) := fun h => by rw [← hnn, hlen]; exact (fst_hit h).1
  have hlt0 : (n : Int) ≤ 4096 := by have := hs.len; omega
  have HG : Hid (∀ (i : Nat) (w' : World), i < n → IRow w' aa ats → ∃ g o, aa = some ⟨g, o, none⟩ ∧ w'.cell? ⟨g, o + i, none⟩ = some (.int .i64 (ats.getD i 0))) := fun i w' h1 h2 => by
    obtain ⟨g, o, e1, -, e2⟩ := h2 i (by omega)
    exact ⟨g, o, e1, e2⟩
  rw [hnn] at HS
  clear hlen HX
  unfold fstV at RD
  unfold TrPost
  rw [hnn]
  clear hn hi h hs hrow hnn
  generalize (fstW D).2 = q at *
  generalize (fstW D).1 = i at *
  obtain ⟨x, hx⟩ : ∃ x, ats.getD i 0 = x := ⟨_, rfl⟩
  have HG : Hid (∀ (w' : World), i < n → IRow w' aa ats → ∃ g o, aa = some ⟨g, o, none⟩ ∧ w'.cell? ⟨g, o + i, none⟩ = some (.int .i64 x)) := fun w' h1 h2 => by
    have := HG.out i w' h1 h2
    rw [hx] at this; exact this
  rw [hx]
  clear hx
  go_enter Tryd.func11, Tryd.ntmps11
  go_wp2_with fail
  refine RD.out.mono ?_; rintro e w1 ⟨rfl, hb⟩
  have HS1 := Lib.hid (HS.out.later hb)
  have HN1 := Lib.hid (HN.out.later hb)
  have HI1 := Lib.hid (HI.out.later hb)
  have HKB : Hid (KeepB b w w1) := KeepB.of hb
  clear hb e0 HS HN HI RD
  cases q with
  | false =>
    clear HIT
    go_wp2
    go_ret2
    exact ⟨by simp, HS1.out, HN1.out, HKB.out⟩
  | true =>
    have hlt := HIT.out rfl
    clear HIT
    have e3 := HS1.out.box.cell 3
    simp at e3
    obtain ⟨g, o, rfl, e4⟩ := HG.out w1 hlt HI1.out
    clear HG HI1
    have h0 : (0 : Int) ≤ (i : Int) := by omega
    have hi2 : (i : Int) < (n : Int) := by omega
    go_upto_region 3 with (fail)
    go_quiet (fail)
    go_wp2
    go_ret2
    exact ⟨by simp, ⟨HS1.out.bel.trans (drewV _ _ _), HS1.out.low, HS1.out.box.later (drewV _ _ _)⟩, HN1.out.later (drewV _ _ _), fun c cs t hne h => (HKB.out c cs t hne h).later (drewV _ _ _)⟩
/-- The three ways. -/
def wayC : Array Value := #[.func (.func 9) #[] #[], .func (.func 10) #[] #[], .func (.func 11) #[] #[]]
def WysP (w : World) (e : Ending) (w' : World) : Prop := ∃ g, e = .returned (.slice (some ⟨g, 0, none⟩) 3 3) ∧ Blk w' g wayC 45 ∧ Below w.heap.size w w'
set_option maxHeartbeats 4000000 in
theorem ways_any (w : World) : Calls Tryd.prog 8 #[] w (WysP w) := by
  unfold WysP
  go_enter Tryd.func8, Tryd.ntmps8
  go_wp2
  go_ret
  exact ⟨_, rfl, Blk.new _ _ _, (Below.refl _ _).alloc (Nat.le_refl _) _⟩
/-- What Read answers. -/
def PVal (w : World) (r : VR) (e : Ending) (w' : World) : Prop := match r with
  | .ok D => ∃ nv, e = .returned (.tuple #[.agg #[nv], .int .i64 0, .int .i64 0]) ∧ OwnN w' w.heap.size nv D ∧ Below w.heap.size w w'
  | .bad er p => e = .returned (.tuple #[.agg #[.slice none 0 0], .int .i64 er, .int .i64 p]) ∧ Below w.heap.size w w'
/-- Behind so many of the ways. -/
inductive StK (w0 : World) (b : Nat) (l : List UInt8) (w : World) : Nat → Prop
  | zero (h : RgS w0 b l (.slice none 0 0) (.slice none 0 0) (.slice none 0 0) w) : StK w0 b l w 0
  | one {r : List Tok} {A : Option Addr} {c : Nat} (hr : readL l 0 0 = .ok r) (ht : TRow w A r) (h : RgS w0 b l (.slice A r.length c) (.slice none 0 0) (.slice none 0 0) w) : StK w0 b l w 1
  | two {r : List Tok} {k : Int} {t : PS} {tv nv av : Value} (hr : readL l 0 0 = .ok r) (hp : parseP (r.map tkOfT) = .ok k t) (hn : OwnN w w0.heap.size nv t.nodes) (hi : OwnI w w0.heap.size av t.ats) (h : RgS w0 b l tv nv av w) : StK w0 b l w 2
  | three {D : List Nd} {tv nv av : Value} (hv : validL l = .ok D) (hn : OwnN w w0.heap.size nv D) (h : RgS w0 b l tv nv av w) : StK w0 b l w 3
theorem StK.later {w0 w w' : World} {b k : Nat} {l : List UInt8} (h : StK w0 b l w k) (hb : Below w.heap.size w w') : StK w0 b l w' k := by
  cases h with
  | zero h => exact .zero (h.later hb)
  | one hr ht h => exact .one hr (ht.later hb) (h.later hb)
  | two hr hp hn hi h => exact .two hr hp (hn.later hb) (hi.later hb) (h.later hb)
  | three hv hn h => exact .three hv (hn.later hb) (h.later hb)
theorem StK.bel {w0 w : World} {b k : Nat} {l : List UInt8} (h : StK w0 b l w k) : Below w0.heap.size w0 w := by cases h <;> (rename_i h; exact h.bel)
/-- What a way of it does. -/
def StepP (w0 : World) (b : Nat) (l : List UInt8) (k : Nat) (w : World) (e : Ending) (w' : World) : Prop :=
  ((e = .returned (.tuple #[.int .i64 0, .int .i64 0]) ∧ StK w0 b l w' (k + 1)) ∨ (∃ er p, er ≠ 0 ∧ validL l = .bad er p ∧ e = .returned (.tuple #[.int .i64 er, .int .i64 p]) ∧ Below w0.heap.size w0 w')) ∧ KeepB b w w'
theorem step_any {l : List UInt8} (hl : l.length ≤ 10000000) {w0 : World} (hU : U8T w0) {b k : Nat} {w : World} (hk : k < 3) (h : StK w0 b l w k) :
    ∃ f, wayC[k]? = some (.func (.func f) #[] #[]) ∧ (∀ args w, (callFunc f args).run Tryd.prog w = .ok (.enter f args) w) ∧ Calls Tryd.prog f #[.pointer (some ⟨b, 0, none⟩)] w (StepP w0 b l k w) := by
  cases h with
  | zero h =>
    refine ⟨9, rfl, enters_of Tryd.func9 (by kernel_rfl) rfl, (totok_any (by omega) hU w h).mono fun e w' hp => ?_⟩
    unfold TtPost at hp
    cases hr : readL l 0 0 with
    | ok r => rw [hr] at hp; obtain ⟨A, c, he, ht, hg, hk⟩ := hp; exact ⟨.inl ⟨he, .one hr ht hg⟩, hk⟩
    | error z =>
      obtain ⟨f, q⟩ := z
      rw [hr] at hp
      obtain ⟨he, hg, hk⟩ := hp
      have := (valid_bad (validL_err hr)).1
      exact ⟨.inr ⟨f, q, by omega, validL_err hr, he, hg.bel⟩, hk⟩
  | @one r A c hr ht h =>
    have hlen := readL_len hr
    have hP := parse_any (toks_txtV hr (by omega)) (readL_ends hr) (by rw [List.length_map]; omega) A c w (hrow_tk ht)
    rw [List.length_map] at hP
    refine ⟨10, rfl, enters_of Tryd.func10 (by kernel_rfl) rfl, (tonode_any w h hP (parse_not_out _)).mono fun e w' hp => ?_⟩
    unfold TnPost at hp
    cases hpp : parseP (r.map tkOfT) with
    | out => rw [hpp] at hp; exact hp.elim
    | ok j t => rw [hpp] at hp; obtain ⟨nv, av, he, hn, hi, hg, hk⟩ := hp; exact ⟨.inl ⟨he, .two hr hpp hn hi hg⟩, hk⟩
    | bad er p =>
      rw [hpp] at hp
      obtain ⟨he, hg, hk⟩ := hp
      have hv : validL l = .bad er p := by rw [validL_tok hr, toksR_bad hpp]
      have := (valid_bad hv).1
      exact ⟨.inr ⟨er, p, by omega, hv, he, hg.bel⟩, hk⟩
  | three hv hn h => omega
  | @two r j t tv nv av hr hpp hn hi h =>
    obtain ⟨f1, f2, f3, f4⟩ := parse_vok hr hpp
    have hs : Sm t.nodes := ⟨f1, f2, fun n hn => Nat.le_trans (f4 n hn) (by omega)⟩
    refine ⟨11, rfl, enters_of Tryd.func11 (by kernel_rfl) rfl, (toright_any hs (ats_star (readL_ends hr) hpp).1 w h hn hi).mono fun e w' hp => ?_⟩
    obtain ⟨h1, h2, h3, hk⟩ := hp
    have hv : validL l = nullR t := by rw [validL_tok hr, toksR_ok hpp]
    unfold nullR at hv
    by_cases hf : (fstW t.nodes).2 = true
    · rw [if_pos hf] at h1 hv
      exact ⟨.inr ⟨10, _, by omega, hv, h1, h2.bel⟩, hk⟩
    · rw [if_neg hf] at h1 hv
      exact ⟨.inl ⟨h1, .three hv h3 h2⟩, hk⟩
def RvL (w0 : World) (g b bd : Nat) (l : List UInt8) (x : Value) (w : World) : Prop := ∃ k : Nat, k ≤ 3 ∧ x = .int .i64 (k : Int) ∧ Blk w g wayC 45 ∧ Blk w bd #[.slice none 0 0] 25 ∧ w0.heap.size ≤ bd ∧ StK w0 b l w k
theorem StK.blk {w0 w : World} {b k : Nat} {l : List UInt8} (h : StK w0 b l w k) : ∃ cs, Blk w b cs 40 := by cases h <;> (rename_i h; exact ⟨_, h.box⟩)
theorem way_ne {w0 w : World} {b k g : Nat} {l : List UInt8} {cs : Array Value} (h : StK w0 b l w k) (hg : Blk w g cs 45) : g ≠ b := by
  obtain ⟨us, hu⟩ := h.blk
  exact Blk.typed2 hg hu (by decide)
theorem desc_ne {w0 w : World} {b k g : Nat} {l : List UInt8} {cs : Array Value} (h : StK w0 b l w k) (hg : Blk w g cs 25) : g ≠ b := by
  obtain ⟨us, hu⟩ := h.blk
  exact Blk.typed2 hg hu (by decide)
set_option maxHeartbeats 32000000 in
theorem vread_any {l : List UInt8} (hl : l.length ≤ 10000000) (w : World) (hU : U8T w) : Calls Tryd.prog 5 #[.string (bs l)] w (PVal w (validL l)) := by
  have ST : Hid (∀ (b k : Nat) (w' : World), k < 3 → StK w b l w' k → ∃ f, wayC[k]? = some (.func (.func f) #[] #[]) ∧ (∀ args w, (callFunc f args).run Tryd.prog w = .ok (.enter f args) w) ∧ Calls Tryd.prog f #[.pointer (some ⟨b, 0, none⟩)] w' (StepP w b l k w')) := fun b k w' hk h => step_any hl hU hk h
  clear hU
  go_enter Tryd.func5, Tryd.ntmps5
  go_upto_region 2 with (fail)
  have hb1 := (Below.refl w.heap.size w).alloc (Nat.le_refl _) (.cells #[.slice none 0 0] 25)
  have hb2 := hb1.alloc hb1.size (.cells #[.string (bs l), .slice none 0 0, .slice none 0 0, .slice none 0 0] 40)
  have hk1 := (Blk.new w #[.slice none 0 0] 25).alloc (.cells #[.string (bs l), .slice none 0 0, .slice none 0 0, .slice none 0 0] 40)
  have hk2 := Blk.new' (w := w.alloc (.cells #[.slice none 0 0] 25)) (b := w.heap.size + 1) (by simp) #[.string (bs l), .slice none 0 0, .slice none 0 0, .slice none 0 0] 40
  have HS0 : Hid (StK w (w.heap.size + 1) l _ 0) := .zero ⟨hb2, Nat.le_succ _, hk2⟩
  have HD0 := Lib.hid hk1
  have HLO : Hid (w.heap.size ≤ w.heap.size) := Nat.le_refl _
  clear hb1 hb2 hk1 hk2
  generalize (w.alloc (.cells #[.slice none 0 0] 25)).alloc (.cells #[.string (bs l), .slice none 0 0, .slice none 0 0, .slice none 0 0] 40) = w1 at *
  generalize w.heap.size + 1 = b at *
  obtain ⟨bd, hbd⟩ : ∃ bd, bd = w.heap.size := ⟨_, rfl⟩
  rw [← hbd] at HD0 ⊢
  have HLO : Hid (w.heap.size ≤ bd) := by rw [hbd]; exact Nat.le_refl _
  clear hbd
  go_wp2_with fail
  refine (ways_any _).mono ?_; rintro e w2 ⟨g, rfl, hg, hb⟩
  have HS2 := Lib.hid (HS0.out.later hb)
  have HD2 := Lib.hid (HD0.out.later hb)
  have HG2 := Lib.hid hg
  clear hg hb HS0 HD0
  go_wp2
  have HL : Hid (RvL w g b bd l (.int .i64 0) w2) := ⟨0, Nat.zero_le _, rfl, HG2.out, HD2.out, HLO.out, HS2.out⟩
  clear HG2 HD2 HS2
  go_loopw [14] (RvL w g b bd l) (fun x _ => 3 - (intOf x).toNat)
  case atStart => exact HL.out
  case round =>
    obtain ⟨k, hk, rfl, hg, hd, hbd, hst⟩ := hrel
    have HS := Lib.hid hst
    have HD := Lib.hid hd
    have HG := Lib.hid hg
    clear hst hd hg hbd HL
    by_cases hlt : k < 3
    · obtain ⟨f, hf, hent, -⟩ := ST.out b k wr hlt HS.out
      have hlow := HS.out.bel.size
      have hb2 := (Below.refl wr.heap.size wr).alloc (Nat.le_refl _) (.cells #[.func (.func f) #[] #[]] 45)
      have HS2 := Lib.hid (HS.out.later hb2)
      have HD2 := Lib.hid (HD.out.later hb2)
      have HG2 := Lib.hid (HG.out.later hb2)
      have HW := Lib.hid (Blk.new wr #[.func (.func f) #[] #[]] 45)
      have gk := HG.out.cell k
      rw [hf] at gk
      have hkz : (k : Int) < 3 := by omega
      have HF := Lib.hid hf
      clear hb2 HS HD HG hf hent
      go_upto_region 5 with (fail)
      clear gk
      generalize wr.alloc (.cells #[.func (.func f) #[] #[]] 45) = w3 at *
      generalize wr.heap.size = bx at *
      obtain ⟨f', hf', hent, hcall⟩ := ST.out b k w3 hlt HS2.out
      have hff : f' = f := by have := HF.out; rw [hf'] at this; cases this; rfl
      subst hff
      have HC := Lib.hid hcall
      have NG : Hid (g ≠ b) := way_ne HS2.out HG2.out
      have ND : Hid (bd ≠ b) := desc_ne HS2.out HD2.out
      clear hcall hf' HF
      have e0 := HW.out.cell 0
      simp at e0
      go_wp2_with fail
      refine HC.out.mono ?_; intro e w4 hp
      obtain ⟨hp, hkb⟩ := hp
      have HG4 := Lib.hid (hkb _ _ _ NG.out HG2.out)
      have HD4 := Lib.hid (hkb _ _ _ ND.out HD2.out)
      clear hkb HG2 HD2 HC e0 HW HS2
      rcases hp with ⟨rfl, hst⟩ | ⟨er, p, hne, hv, rfl, hb⟩
      · have HST := Lib.hid hst
        clear hst hent
        go_wp2
        go_roundw
        case rel => exact ⟨k + 1, hlt, by go_num, HG4.out, HD4.out, HLO.out, HST.out⟩
        case measure => simp [intOf]; omega
      · have HV := Lib.hid hv
        have HB := Lib.hid hb
        have hz : (er != 0) = true := by rw [bne_iff_ne]; exact hne
        have d0 := HD4.out.cell 0
        have d1 := HD4.out.frozen 0
        simp at d0
        clear hv hb hent hne
        go_wp2
        exact bodyPost_ret (v := .tuple #[.agg #[.slice none 0 0], .int .i64 er, .int .i64 p]) (by simp [results, Tryd.results5, go_sem, d0, d1]) rfl (by rw [HV.out]; exact ⟨rfl, HB.out.setCell (p := ⟨bd, 0, none⟩) HLO.out _⟩)
    · obtain rfl : k = 3 := by omega
      obtain ⟨D, tv, nv, av, hv, hn, hrg⟩ : ∃ D tv nv av, validL l = .ok D ∧ OwnN wr w.heap.size nv D ∧ RgS w b l tv nv av wr := by
        cases HS.out with
        | three h1 h2 h3 => exact ⟨_, _, _, _, h1, h2, h3⟩
      obtain ⟨an, kn, rfl, -⟩ := hn.row
      have HV := Lib.hid hv
      have HN := Lib.hid hn
      have HR := Lib.hid hrg
      have e2 := hrg.box.cell 2
      simp at e2
      have d0 := HD.out.cell 0
      have d1 := HD.out.frozen 0
      simp at d0
      have hlast : ¬ ((3 : Nat) : Int) < 3 := by omega
      clear hv hn hrg HS
      go_wp2
      exact bodyPost_ret (v := .tuple #[.agg #[.slice an D.length kn], .int .i64 0, .int .i64 0]) (by simp [results, Tryd.results5, go_sem, d0, d1]) rfl (by rw [HV.out]; exact ⟨_, rfl, own_set HN.out (own_typed HN.out HD.out (by decide)) _, HR.out.bel.setCell (p := ⟨bd, 0, none⟩) HLO.out _⟩)
theorem vr_code {l : List UInt8} {er p : Int} (h : validL l = .bad er p) : er ≠ 0 := by have := (valid_bad h).1; omega
set_option maxHeartbeats 8000000 in
theorem vis_any {l : List UInt8} (hl : l.length ≤ 10000000) (w : World) (hU : U8T w) {x : Bool} (hx : vrOk (validL l) = x) : Calls Tryd.prog 7 #[.string (bs l)] w (Ans w (.bool x)) := by
  have RD := Lib.hid (vread_any hl w hU)
  have HZ : Hid (∀ er p, validL l = .bad er p → er ≠ 0) := fun er p h => vr_code h
  clear hU
  subst hx
  generalize validL l = r at *
  generalize bs l = s at *
  cases r with
  | ok D =>
    clear HZ
    go_enter Tryd.func7, Tryd.ntmps7
    go_wp2_with fail
    refine RD.out.mono ?_; rintro e w1 ⟨nv, rfl, hn, hb⟩
    have HB := Lib.hid hb
    obtain ⟨an, kn, rfl, -⟩ := hn.row
    clear hb hn RD
    go_wp2
    go_ret
    exact ⟨rfl, HB.out.trans ((Below.refl _ _).alloc HB.out.size _)⟩
  | bad er p =>
    have hz2 : (er == 0) = false := beq_false_of_ne (HZ.out er p rfl)
    clear HZ
    go_enter Tryd.func7, Tryd.ntmps7
    go_wp2_with fail
    refine RD.out.mono ?_; rintro e w1 ⟨rfl, hb⟩
    have HB := Lib.hid hb
    clear hb RD
    go_wp2
    go_ret
    exact ⟨rfl, HB.out.trans ((Below.refl _ _).alloc HB.out.size _)⟩
end Go.Proofs.YtcgjmnhmhiddkaaDoor
/- The anchor of layer 9. -/
namespace Go.Proofs.YtcgjmnhmhiddkaaDoor
open Go Go.RowKit
set_option linter.unusedVariables false
set_option linter.unusedSimpArgs false
set_option maxRecDepth 100000

structure A9S (w0 : World) (b : Nat) (an : Option Addr) (kn : Nat) (D : List Nd) (w : World) : Prop where
  bel : Below w0.heap.size w0 w
  box : Blk w b #[.slice an 5 kn] 25
  row : NRow w an D
  u : U8T w
theorem A9S.later {w0 w w' : World} {b : Nat} {an : Option Addr} {kn : Nat} {D : List Nd} (h : A9S w0 b an kn D w) (hb : Below w.heap.size w w') : A9S w0 b an kn D w' := ⟨h.bel.trans (hb.mono h.bel.size), h.box.later hb, h.row.later hb, h.u.later hb⟩
theorem A9S.step {w0 w w' : World} {b : Nat} {an : Option Addr} {kn : Nat} {D : List Nd} (h : A9S w0 b an kn D w) (hb : Below w.heap.size w w') (cs : Array Value) (t : TypeId) : A9S w0 b an kn D (w'.alloc (.cells cs t)) := h.later (hb.trans ((Below.refl _ _).alloc hb.size _))
set_option maxHeartbeats 16000000 in
theorem awake9_any (w : World) (hU : U8T w) : Calls Tryd.prog 4 #[] w (Ans w (.bool true)) := by
  obtain ⟨D, hv, hlen, hkind⟩ := aw9_ok
  have RA : Hid (∀ w, U8T w → Calls Tryd.prog 5 #[.string ⟨#[60, 54, 49, 62, 42, 98, 40, 46, 41]⟩] w (PVal w (.ok D))) := fun w h => by
    have q := vread_any (l := [60, 54, 49, 62, 42, 98, 40, 46, 41]) (by decide) w h
    rw [hv] at q; exact q
  have RB : Hid (∀ w, U8T w → Calls Tryd.prog 5 #[.string ⟨#[40, 46, 42, 41, 42]⟩] w (PVal w (.bad 10 4))) := fun w h => by
    have q := vread_any (l := [40, 46, 42, 41, 42]) (by decide) w h
    rw [aw9_b] at q; exact q
  have RC : Hid (∀ w, U8T w → Calls Tryd.prog 5 #[.string ⟨#[46, 32, 97]⟩] w (PVal w (.bad 1 2))) := fun w h => by
    have q := vread_any (l := [46, 32, 97]) (by decide) w h
    rw [aw9_c] at q; exact q
  have RD : Hid (∀ w, U8T w → Calls Tryd.prog 5 #[.string ⟨#[40, 46, 32]⟩] w (PVal w (.bad 6 0))) := fun w h => by
    have q := vread_any (l := [40, 46, 32]) (by decide) w h
    rw [aw9_d] at q; exact q
  have IE : Hid (∀ w, U8T w → Calls Tryd.prog 7 #[.string ⟨#[46]⟩] w (Ans w (.bool true))) := fun w h => vis_any (l := [46]) (by decide) w h aw9_e
  have IF_ : Hid (∀ w, U8T w → Calls Tryd.prog 7 #[.string ⟨#[]⟩] w (Ans w (.bool false))) := fun w h => vis_any (l := []) (by decide) w h aw9_f
  have IG : Hid (∀ w, U8T w → Calls Tryd.prog 7 #[.string ⟨#[40, 41, 123, 49, 44, 50, 125]⟩] w (Ans w (.bool false))) := fun w h => vis_any (l := [40, 41, 123, 49, 44, 50, 125]) (by decide) w h aw9_g
  have HU := Lib.hid hU
  have HLEN := Lib.hid hlen
  have HKIND := Lib.hid hkind
  clear hU hv hlen hkind
  go_enter Tryd.func4, Tryd.ntmps4
  go_wp2_with fail
  refine (RA.out _ HU.out).mono ?_; rintro e w1 ⟨nv, rfl, hn, hb⟩
  obtain ⟨an, kn, rfl, hrow⟩ := hn.row
  rw [HLEN.out]
  have HS1 : Hid (A9S w w1.heap.size an kn D (w1.alloc (.cells #[.slice an 5 kn] 25))) := by
    have h2 := hb.trans ((Below.refl _ _).alloc hb.size (.cells #[.slice an 5 kn] 25))
    exact ⟨h2, Blk.new _ _ _, hrow.later ((Below.refl _ _).alloc (Nat.le_refl _) _), HU.out.later h2⟩
  clear hb hrow hn RA HU
  go_upto_region 2 with (fail)
  generalize w1.alloc (.cells #[.slice an 5 kn] 25) = w2 at *
  generalize w1.heap.size = b at *
  go_wp2_with fail
  refine (RB.out _ HS1.out.u).mono ?_; rintro e w3 ⟨rfl, hb⟩
  have HS3 := Lib.hid (HS1.out.step hb #[.slice none 0 0] 25)
  clear hb HS1 RB
  go_upto_region 3 with (fail)
  generalize w3.alloc (.cells #[.slice none 0 0] 25) = w4 at *
  go_wp2_with fail
  refine (RC.out _ HS3.out.u).mono ?_; rintro e w5 ⟨rfl, hb⟩
  have HS5 := Lib.hid (HS3.out.step hb #[.slice none 0 0] 25)
  clear hb HS3 RC
  go_upto_region 4 with (fail)
  generalize w5.alloc (.cells #[.slice none 0 0] 25) = w6 at *
  go_wp2_with fail
  refine (RD.out _ HS5.out.u).mono ?_; rintro e w7 ⟨rfl, hb⟩
  have HS7 := Lib.hid (HS5.out.step hb #[.slice none 0 0] 25)
  clear hb HS5 RD
  go_upto_region 5 with (fail)
  generalize w7.alloc (.cells #[.slice none 0 0] 25) = w8 at *
  have e0 := HS7.out.box.cell 0
  simp at e0
  have h4 : 4 < D.length := by rw [HLEN.out]; decide
  obtain ⟨ba, oa, hAe, -, -⟩ := HS7.out.row 4 h4
  subst hAe
  have g : At10 w8 ba (oa + 4 * 10) (D.getD 4 nd0) := HS7.out.row.at h4 rfl
  have hk : (D.getD 4 nd0).kind = 4 := HKIND.out
  have g0 := g.1
  rw [hk] at g0
  clear g hk h4
  go_wp2_with fail
  refine (IE.out _ HS7.out.u).mono ?_; rintro e y1 ⟨rfl, hb⟩
  have HY1 := Lib.hid (HS7.out.later hb)
  clear hb HS7 IE e0 g0
  go_wp2_with fail
  refine (IF_.out _ HY1.out.u).mono ?_; rintro e y2 ⟨rfl, hb⟩
  have HY2 := Lib.hid (HY1.out.later hb)
  clear hb HY1 IF_
  go_wp2_with fail
  refine (IG.out _ HY2.out.u).mono ?_; rintro e y3 ⟨rfl, hb⟩
  have HY3 := Lib.hid (HY2.out.later hb)
  clear hb HY2 IG
  go_wp2
  go_ret
  exact ⟨rfl, HY3.out.bel⟩
end Go.Proofs.YtcgjmnhmhiddkaaDoor
/- The statement ValidSpaces of layer 9, walked. -/
namespace Go.Proofs.YtcgjmnhmhiddkaaDoor
open Go Go.RowKit
set_option linter.unusedVariables false
set_option linter.unusedSimpArgs false
set_option maxRecDepth 100000

/-- The tables. -/
structure UbS (w0 w : World) : Prop where
  bel : Below w0.heap.size w0 w
  u : U8T w
theorem UbS.later {w0 w w' : World} (h : UbS w0 w) (hb : Below w.heap.size w w') : UbS w0 w' := ⟨h.bel.trans (hb.mono h.bel.size), h.u.later hb⟩
/-- .. and a description in its box. -/
structure UdS (w0 : World) (b : Nat) (an : Option Addr) (n kn : Nat) (D : List Nd) (w : World) : Prop where
  s : UbS w0 w
  box : Blk w b #[.slice an n kn] 25
  row : NRow w an D
theorem UdS.later {w0 w w' : World} {b : Nat} {an : Option Addr} {n kn : Nat} {D : List Nd} (h : UdS w0 b an n kn D w) (hb : Below w.heap.size w w') : UdS w0 b an n kn D w' := ⟨h.s.later hb, h.box.later hb, h.row.later hb⟩
theorem UdS.new {w0 w w' : World} (h : UbS w0 w) (hb : Below w.heap.size w w') {an : Option Addr} {n kn : Nat} {D : List Nd} (hr : NRow w' an D) : UdS w0 w'.heap.size an n kn D (w'.alloc (.cells #[.slice an n kn] 25)) :=
  ⟨h.later (hb.trans ((Below.refl _ _).alloc hb.size _)), Blk.new _ _ _, hr.later ((Below.refl _ _).alloc (Nat.le_refl _) _)⟩
def SpL (w0 : World) (g : Nat) (s i : Value) (w : World) : Prop := ∃ j : Nat, j ≤ g ∧ s = .string (bs (List.replicate j 32)) ∧ i = .int .i64 (j : Int) ∧ UbS w0 w
def vrE (r : VR) : Int := match r with
  | .ok _ => 0
  | .bad e _ => e
def vrP (r : VR) : Int := match r with
  | .ok _ => 0
  | .bad _ p => p
def vrD (r : VR) : List Nd := match r with
  | .ok D => D
  | .bad _ _ => []
/-- What Read answers, whichever it is. -/
theorem PVal.one {w w' : World} {r : VR} {e : Ending} (h : PVal w r e w') : ∃ an kn, e = .returned (.tuple #[.agg #[.slice an (vrD r).length kn], .int .i64 (vrE r), .int .i64 (vrP r)]) ∧ NRow w' an (vrD r) ∧ Below w.heap.size w w' := by
  cases r with
  | ok D => obtain ⟨nv, rfl, ho, hb⟩ := h; obtain ⟨an, kn, rfl, hr⟩ := ho.row; exact ⟨_, _, rfl, hr, hb⟩
  | bad er p => obtain ⟨rfl, hb⟩ := h; exact ⟨none, 0, rfl, NRow.nil _ _, hb⟩
set_option maxHeartbeats 32000000 in
theorem validspaces_walk (l : List UInt8) (a : Nat) (ha : a < 256) (w : World) (hU : U8T w) (hl : l.length ≤ 9223372036854775807) :
    Calls Tryd.prog 3 #[.string (bs l), .int .u8 (a : Int)] w (Ans w (.bool true)) := by
  have HS : Hid (UbS w w) := ⟨Below.refl _ _, hU⟩
  clear hU
  go_enter Tryd.func3, Tryd.ntmps3
  go_wp2_with fail
  refine (awake9_any _ HS.out.u).mono ?_; rintro e w1 ⟨rfl, hb⟩
  have HS1 := Lib.hid (HS.out.later hb)
  clear hb HS
  by_cases h5 : 500 < l.length
  · have hz : ((bs l).size : Int) > 500 := by rw [bs_size]; omega
    go_wp2_with fail
    refine (awake9_any _ HS1.out.u).mono ?_; rintro e w2 ⟨rfl, hb⟩
    have HSX := Lib.hid (HS1.out.later hb).bel
    clear hb HS1
    go_wp2
    go_ret
    exact ⟨rfl, HSX.out⟩
  · have hz : ¬ ((bs l).size : Int) > 500 := by rw [bs_size]; omega
    have LL : Hid (l.length ≤ 500) := by unfold Hid; omega
    clear h5
    go_upto_region 4 with (fail)
    go_wp2
    have HL : Hid (SpL w (a % 9) (.string ⟨#[]⟩) (.int .i64 0) w1) := ⟨0, Nat.zero_le _, rfl, rfl, HS1.out⟩
    clear HS1
    go_loopw [5, 6] (SpL w (a % 9)) (fun _ i _ => a % 9 - (intOf i).toNat)
    case atStart => exact HL.out
    case round =>
      obtain ⟨j, hj, rfl, rfl, hs⟩ := hrel
      have HS := Lib.hid hs
      clear hs HL
      have hb6 : (a : Int) % 9 = ((a % 9 : Nat) : Int) := by omega
      have hb5 : a % 9 < 9 := Nat.mod_lt _ (by omega)
      generalize hbb : a % 9 = gp at *
      clear hbb
      by_cases hlt : j < gp
      · have hltz : (j : Int) < (gp : Int) := by omega
        have hcat : bs (List.replicate j 32) ++ ⟨#[32]⟩ = bs (List.replicate (j + 1) 32) := by
          show bs _ ++ bs [32] = _
          rw [bs_append, List.replicate_succ']
        have hz1 : (bs (List.replicate j (32 : UInt8))).size ≤ 100 := by rw [bs_size, List.length_replicate]; omega
        go_wp2
        go_roundw
        case rel => exact ⟨j + 1, by omega, by first | rfl | (rw [hcat]), by go_num, HS.out⟩
        case measure => simp [intOf]; omega
      · obtain rfl : j = gp := by omega
        have hltz : ¬ (j : Int) < (j : Int) := by omega
        go_upto_region 8 with (fail)
        clear hlt hb6 hj hltz
        have hfs : (bs (List.replicate j (32 : UInt8))).size = j := by rw [bs_size, List.length_replicate]
        have CF : Hid (bs (List.replicate j 32) ++ bs l = bs (List.replicate j 32 ++ l)) := bs_append _ _
        have CG : Hid (bs l ++ bs (List.replicate j 32) = bs (l ++ List.replicate j 32)) := bs_append _ _
        have RD : Hid (∀ w', UbS w w' → Calls Tryd.prog 5 #[.string (bs l)] w' (PVal w' (validL l))) := fun w' h => vread_any (by have := LL.out; omega) w' h.u
        have RF : Hid (∀ w', UbS w w' → Calls Tryd.prog 5 #[.string (bs (List.replicate j 32 ++ l))] w' (PVal w' (validL (List.replicate j 32 ++ l)))) := fun w' h => vread_any (by rw [List.length_append, List.length_replicate]; have := LL.out; omega) w' h.u
        have RG : Hid (∀ w', UbS w w' → Calls Tryd.prog 5 #[.string (bs (l ++ List.replicate j 32))] w' (PVal w' (validL (l ++ List.replicate j 32)))) := fun w' h => vread_any (by rw [List.length_append, List.length_replicate]; have := LL.out; omega) w' h.u
        have VA := valid_ahead l j
        have VB := valid_behind l j
        have HVB := Lib.hid (fun e p h => valid_bad (l := l) (e := e) (p := p) h)
        have HVO := Lib.hid (fun D h => (valid_ok (l := l) (D := D) h).len)
        generalize List.replicate j (32 : UInt8) = F at *
        cases hv : validL l with
        | ok D =>
          rw [hv] at VA VB RD
          rw [VA] at RF
          rw [VB] at RG
          have h4 := HVO.out D hv
          obtain ⟨n, hn⟩ : ∃ n, D.length = n := ⟨_, rfl⟩
          have HN := Lib.hid hn
          rw [hn] at h4
          have CS : Hid (∀ w' b c ax kx ay ky, UdS w b ax n kx D w' → UdS w c ay n ky D w' → Calls Tryd.prog 6 #[.agg #[.slice ax n kx], .agg #[.slice ay n ky]] w' (Ans w' (.bool true))) := fun w' b c ax kx ay ky h k => by
            have q := refnsame_any D D ax ay kx ky w' h.row k.row (by have := HN.out; omega) (by have := HN.out; omega)
            rw [HN.out, decide_eq_true rfl] at q; exact q
          clear VA VB HVB HVO hv hn
          go_wp2_with fail
          refine (RD.out _ HS.out).mono ?_; rintro e w2 ⟨nv, rfl, ho, hb⟩
          obtain ⟨ax, kx, rfl, hrow⟩ := ho.row
          rw [HN.out]
          have HX : Hid (UdS w w2.heap.size ax n kx D _) := UdS.new HS.out hb hrow
          clear hb ho hrow HS RD
          go_upto_region 9 with (fail)
          generalize w2.alloc (.cells #[.slice ax n kx] 25) = w3 at *
          generalize w2.heap.size = bx at *
          go_wp2_with fail
          rw [CF.out]
          refine (RF.out _ HX.out.s).mono ?_; rintro e w4 ⟨nv, rfl, ho, hb⟩
          obtain ⟨ay, ky, rfl, hrow⟩ := ho.row
          rw [HN.out]
          have HY : Hid (UdS w w4.heap.size ay n ky D _) := UdS.new HX.out.s hb hrow
          have HX2 := Lib.hid (HX.out.later (hb.trans ((Below.refl _ _).alloc hb.size (.cells #[.slice ay n ky] 25))))
          clear hb ho hrow HX RF
          go_upto_region 10 with (fail)
          generalize w4.alloc (.cells #[.slice ay n ky] 25) = w5 at *
          generalize w4.heap.size = by_ at *
          have e0 := HX2.out.box.cell 0
          have e1 := HY.out.box.cell 0
          simp at e0 e1
          go_wp2_with fail
          refine (CS.out _ _ _ _ _ _ _ HX2.out HY.out).mono ?_; rintro e w6 ⟨rfl, hb⟩
          have HX3 := Lib.hid (HX2.out.later hb)
          clear hb HX2 HY e0 e1
          go_wp2_with fail
          rw [CG.out]
          refine (RG.out _ HX3.out.s).mono ?_; rintro e w7 ⟨nv, rfl, ho, hb⟩
          obtain ⟨az, kz, rfl, hrow⟩ := ho.row
          rw [HN.out]
          have HZ : Hid (UdS w w7.heap.size az n kz D _) := UdS.new HX3.out.s hb hrow
          have HX4 := Lib.hid (HX3.out.later (hb.trans ((Below.refl _ _).alloc hb.size (.cells #[.slice az n kz] 25))))
          clear hb ho hrow HX3 RG
          go_upto_region 15 with (fail)
          generalize w7.alloc (.cells #[.slice az n kz] 25) = w8 at *
          generalize w7.heap.size = bz at *
          have e0 := HX4.out.box.cell 0
          have e1 := HZ.out.box.cell 0
          simp at e0 e1
          go_wp2_with fail
          refine (CS.out _ _ _ _ _ _ _ HZ.out HX4.out).mono ?_; rintro e w9 ⟨rfl, hb⟩
          have HSX := Lib.hid (HX4.out.later hb).s.bel
          clear hb HX4 HZ e0 e1
          go_wp2
          go_ret
          exact ⟨by first | rfl | simp, HSX.out⟩
        | bad er p =>
          rw [hv] at VA VB RD
          rw [VA] at RF
          obtain ⟨q1, q2, q3, q4⟩ := HVB.out er p hv
          have CS : Hid (∀ w', Calls Tryd.prog 6 #[.agg #[.slice none 0 0], .agg #[.slice none 0 0]] w' (Ans w' (.bool true))) := fun w' => by
            have q := refnsame_any [] [] none none 0 0 w' (NRow.nil _ _) (NRow.nil _ _) (by decide) (by decide)
            exact q
          have HVB2 := Lib.hid VB
          have hne : (er != 0) = true := by rw [bne_iff_ne]; omega
          have hne2 : (er == 0) = false := by rw [beq_eq_false_iff_ne]; omega
          have hee : (er != er) = false := by simp
          have hpp : ((p + (j : Int)) != (p + (j : Int))) = false := by simp
          have hpl : p ≤ 500 := by have := LL.out; omega
          have Q4 := Lib.hid q4
          have HERZ := Lib.hid hne2
          clear VA VB HVB HVO hv q4
          go_wp2_with fail
          refine (RD.out _ HS.out).mono ?_; rintro e w2 ⟨rfl, hb⟩
          have hb2 := hb.trans ((Below.refl _ _).alloc hb.size (.cells #[.slice none 0 0] 25))
          have HX : Hid (UdS w w2.heap.size none 0 0 [] _) := ⟨HS.out.later hb2, Blk.new w2 _ _, NRow.nil _ _⟩
          clear hb hb2 HS RD
          go_upto_region 9 with (fail)
          generalize w2.alloc (.cells #[.slice none 0 0] 25) = w3 at *
          generalize w2.heap.size = bx at *
          go_wp2_with fail
          rw [CF.out]
          refine (RF.out _ HX.out.s).mono ?_; rintro e w4 ⟨rfl, hb⟩
          have hb2 := hb.trans ((Below.refl _ _).alloc hb.size (.cells #[.slice none 0 0] 25))
          have HY : Hid (UdS w w4.heap.size none 0 0 [] _) := ⟨HX.out.s.later hb2, Blk.new w4 _ _, NRow.nil _ _⟩
          have HX2 := Lib.hid (HX.out.later hb2)
          clear hb hb2 HX RF
          go_upto_region 10 with (fail)
          generalize w4.alloc (.cells #[.slice none 0 0] 25) = w5 at *
          generalize w4.heap.size = by_ at *
          have e0 := HX2.out.box.cell 0
          have e1 := HY.out.box.cell 0
          simp at e0 e1
          go_wp2_with fail
          refine (CS.out _).mono ?_; rintro e w6 ⟨rfl, hb⟩
          have HX3 := Lib.hid (HX2.out.later hb)
          clear hb HX2 HY e0 e1
          have hwr : IntKind.i64.wrap (p + (j : Int)) = p + (j : Int) := IntWalk.i64_in _ (by omega)
          by_cases h234 : er = 2 ∨ er = 3 ∨ er = 4
          · have HSX := Lib.hid HX3.out.s.bel
            rcases h234 with rfl | rfl | rfl
            · go_wp2
              go_ret
              exact ⟨rfl, HSX.out⟩
            · go_wp2
              go_ret
              exact ⟨rfl, HSX.out⟩
            · go_wp2
              go_ret
              exact ⟨rfl, HSX.out⟩
          · obtain ⟨p2, hv2, hp2⟩ := HVB2.out (by omega) (by omega) (by omega)
            rw [hv2] at RG
            have HP2 := Lib.hid hp2
            have c2 : (er == 2) = false := by rw [beq_eq_false_iff_ne]; omega
            have c3 : (er == 3) = false := by rw [beq_eq_false_iff_ne]; omega
            have c4 : (er == 4) = false := by rw [beq_eq_false_iff_ne]; omega
            clear h234 hv2 hp2 HVB2
            go_wp2_with fail
            rw [CG.out]
            refine (RG.out _ HX3.out.s).mono ?_; rintro e w7 ⟨rfl, hb⟩
            have hb2 := hb.trans ((Below.refl _ _).alloc hb.size (.cells #[.slice none 0 0] 25))
            have HZ : Hid (UdS w w7.heap.size none 0 0 [] _) := ⟨HX3.out.s.later hb2, Blk.new w7 _ _, NRow.nil _ _⟩
            have HX4 := Lib.hid (HX3.out.later hb2)
            clear hb hb2 HX3 RG
            go_upto_region 15 with (fail)
            generalize w7.alloc (.cells #[.slice none 0 0] 25) = w8 at *
            generalize w7.heap.size = bz at *
            have e0 := HX4.out.box.cell 0
            have e1 := HZ.out.box.cell 0
            simp at e0 e1
            have heq : (er == er) = true := by simp
            have hsz : ((bs l).size : Int) = (l.length : Int) := by rw [bs_size]
            rcases HP2.out with rfl | ⟨rfl, rfl⟩
            · have hp3 : (p2 == p2) = true := by simp
              clear hsz
              go_wp2_with fail
              refine (CS.out _).mono ?_; rintro e w9 ⟨rfl, hb⟩
              have HSX := Lib.hid (HX4.out.later hb).s.bel
              clear hb HX4 HZ e0 e1
              go_wp2
              go_ret
              exact ⟨by first | rfl | simp, HSX.out⟩
            · have hs1 : ((l.length : Int) == ((bs l).size : Int)) = true := by rw [bs_size, beq_self_eq_true]
              have hs2 : ((l.length : Int) + (j : Int) == (l.length : Int) + (j : Int)) = true := by rw [beq_self_eq_true]
              clear hsz
              cases hbb : ((l.length : Int) + (j : Int) == (l.length : Int)) with
              | false =>
                go_wp2_with fail
                refine (CS.out _).mono ?_; rintro e w9 ⟨rfl, hb⟩
                have HSX := Lib.hid (HX4.out.later hb).s.bel
                clear hb HX4 HZ e0 e1
                go_wp2
                go_ret
                exact ⟨by first | rfl | simp, HSX.out⟩
              | true =>
                go_wp2_with fail
                refine (CS.out _).mono ?_; rintro e w9 ⟨rfl, hb⟩
                have HSX := Lib.hid (HX4.out.later hb).s.bel
                clear hb HX4 HZ e0 e1
                go_wp2
                go_ret
                exact ⟨by first | rfl | simp, HSX.out⟩
end Go.Proofs.YtcgjmnhmhiddkaaDoor
