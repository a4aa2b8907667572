/- Words that states read: forms, and whole words. -/
import Derived.Test.YtidoofdofdhjpaaM40
import Derived.Test.YtidoofdofdhjpaaM22
import Derived.Test.YtidoofdofdhjpaaM34
import Derived.Test.YtidoofdofdhjpaaM35
namespace Go.Proofs.Ytidoofdofdhjpaa
open Go
set_option linter.unusedVariables false
set_option linter.unusedSimpArgs false

theorem low_form {l : List Nd} {r q : List Itm} (hr : ∀ y ∈ r, HdF l y) (h : lowS r = some q) : ∀ y ∈ q, HdF l y := by
  unfold lowS at h
  by_cases e : r.all maylow = true
  · rw [if_pos e] at h
    cases h
    intro y hy
    obtain ⟨x, hx, rfl⟩ := List.mem_map.1 hy
    have h1 := List.all_eq_true.1 e x hx
    have h2 := hr x hx
    unfold lowI
    by_cases h5 : x.kind = 5
    · rw [if_pos h5]
      obtain ⟨a, b, c, d⟩ := h2.stop h5
      unfold maylow at h1
      simp [h5] at h1
      exact ⟨fun _ => ⟨a, b, by simp only; omega, by simp only; omega⟩, fun k => absurd h5 k, by simp only; omega, fun k => by simp only at k; omega, fun k => by simp only at k; omega, fun k => by simp only at k; omega, fun k => by simp only at k; omega⟩
    · rw [if_neg h5]; exact h2
  · rw [if_neg e] at h; cases h
theorem fr_form {l : List Nd} (hF : Form l) {x : Itm} (hx : HdF l x) (hrd : rdyS l [x] = true) {c : UInt8} {f : List Itm} (h : frS l x c = some f) : ∀ y ∈ f, HdF l y := by
  have h5 : x.kind ≠ 5 := rdy_five hrd
  obtain ⟨kk, nn, lo, hi'⟩ := x
  obtain ⟨hn0, hn1⟩ := hx.node h5
  simp only at hn0 hn1 h5
  obtain ⟨i, rfl⟩ : ∃ i : Nat, nn = (i : Int) := ⟨nn.toNat, by omega⟩
  have hi : i < l.length := by omega
  have hc := c.toNat_lt
  have one : ∀ a : Int, 0 ≤ a → a < (l.length : Int) → HdF l ⟨1, a, 0, 0⟩ := fun a h1 h2 => ⟨fun h => by simp at h, fun _ => ⟨h1, h2⟩, ⟨by simp, by simp⟩, fun _ => ⟨rfl, rfl⟩, fun h => by simp at h, fun h => by simp at h, fun h => by simp at h⟩
  have stp : ∀ p : Int, 0 ≤ p → p ≤ 65535 → HdF l ⟨5, 0, p, 0⟩ := fun p h1 h2 => ⟨fun _ => ⟨rfl, rfl, h1, h2⟩, fun k => absurd rfl k, ⟨by simp, by simp⟩, fun h => by simp at h, fun h => by simp at h, fun h => by simp at h, fun h => by simp at h⟩
  have kid : (atN l i).kind = 8 ∨ (atN l i).kind = 9 → HdF l ⟨1, (atN l i).a, 0, 0⟩ := fun hk => by
    cases hd_cs hF hi with
    | leaf h1 hf => unfold leafK at h1; omega
    | one h1 hi0 ha hb h7 hr hcl hf => exact one _ (by omega) (by omega)
    | two h1 hi0 hb ha hf0 hl hcl hf => omega
  unfold frS at h
  simp only [Int.toNat_natCast] at h
  by_cases h3 : kk = 3
  · subst h3
    obtain ⟨g1, g2, g3, g4⟩ := hx.three rfl
    simp only [Int.toNat_natCast] at g1 g2 g3 g4
    rw [if_pos rfl] at h
    by_cases e : (atN l i).text.getD lo.toNat 0 = c
    · rw [if_pos e] at h
      by_cases z : lo + 1 < ((atN l i).text.length : Int)
      · rw [if_pos z] at h
        cases h
        intro y hy
        rw [List.mem_singleton.1 hy]
        exact ⟨fun h => by simp at h, fun _ => ⟨hn0, hn1⟩, ⟨by simp, by simp⟩, fun h => by simp at h, fun h => by simp at h, fun _ => ⟨by simpa using g1, rfl, by simp only; omega, by simpa using z⟩, fun h => by simp at h⟩
      · rw [if_neg z] at h
        cases h
        intro y hy; cases hy
    · rw [if_neg e] at h; cases h
  · rw [if_neg h3] at h
    by_cases h4 : kk = 4
    · subst h4
      obtain ⟨g1, g2, g3, g4⟩ := hx.four rfl
      simp only [Int.toNat_natCast] at g1 g2 g3 g4
      rw [if_pos rfl] at h
      cases h
      intro y hy
      rcases List.mem_cons.1 hy with rfl | hy
      · exact kid (.inr g1)
      · rw [List.mem_singleton.1 hy]; exact stp _ (by omega) (by omega)
    · rw [if_neg h4] at h
      by_cases k8 : (atN l i).kind = 8
      · rw [if_pos k8] at h
        cases h
        intro y hy
        rcases List.mem_cons.1 hy with rfl | hy
        · exact kid (.inl k8)
        · rw [List.mem_singleton.1 hy]; exact stp _ (by omega) (by omega)
      · rw [if_neg k8] at h
        by_cases k9 : (atN l i).kind = 9
        · rw [if_pos k9] at h
          cases h
          intro y hy
          rw [List.mem_singleton.1 hy]
          exact ⟨fun h => by simp at h, fun _ => ⟨hn0, hn1⟩, ⟨by simp, by simp⟩, fun h => by simp at h, fun h => by simp at h, fun h => by simp at h, fun _ => ⟨by simpa using k9, rfl, by simp only; omega, by simp only; omega⟩⟩
        · rw [if_neg k9] at h
          by_cases e : (atN l i).cls.getLsbD c.toNat = true
          · rw [if_pos e] at h; cases h; intro y hy; cases hy
          · rw [if_neg e] at h; cases h
/-- What is read has its form. -/
theorem rd_form {l : List Nd} (hF : Form l) {t : List Itm} (ht : ∀ y ∈ t, HdF l y) (hrd : rdyS l t = true) {c : UInt8} {q : List Itm} (h : rdS l t c = some q) : ∀ y ∈ q, HdF l y := by
  cases t with
  | nil => unfold rdS at h; cases h
  | cons x r =>
    unfold rdS at h
    simp only at h
    cases hl : lowS r with
    | none => rw [hl] at h; cases h
    | some p =>
      rw [hl] at h
      simp only [Option.bind_some] at h
      cases hf : frS l x c with
      | none => rw [hf] at h; cases h
      | some f =>
        rw [hf] at h
        cases h
        intro y hy
        rcases List.mem_append.1 hy with hy | hy
        · exact fr_form hF (ht x (List.mem_cons_self ..)) (by rw [← hrd]; rfl) hf y hy
        · exact low_form (fun z hz => ht z (List.mem_cons_of_mem _ hz)) hl y hy
theorem on_form {l : List Nd} (hF : Form l) {s : List Itm} (hs : ∀ y ∈ s, HdF l y) {c : UInt8} {q : List Itm} (h : q ∈ onL l s c) : ∀ y ∈ q, HdF l y := by
  unfold onL at h
  obtain ⟨t, ht, hq⟩ := List.mem_filterMap.1 h
  obtain ⟨h1, h2, -⟩ := rchS_ok hF hs ht
  exact rd_form hF h2 h1 hq
def FrmB (l : List Nd) (L : Brs) : Prop := ∀ a ∈ L, ∀ y ∈ a.1, HdF l y
theorem brs_form {l : List Nd} {R : List (List Itm)} (h : ∀ q ∈ R, ∀ y ∈ q, HdF l y) : FrmB l (brsL R) := fun a ha => h a.1 ((brsL_keys R a.1).1 (List.mem_map_of_mem ha))
end Go.Proofs.Ytidoofdofdhjpaa
/- Words that states read: ends far ahead, and classes. -/
namespace Go.Proofs.Ytidoofdofdhjpaa
open Go
set_option linter.unusedVariables false
set_option linter.unusedSimpArgs false

/-- What a ready state's bytes are told apart by. -/
def sgC (b : UInt8) : BitVec 256 := BitVec.ofNat 256 (2 ^ b.toNat)
def clT (l : List Nd) : List Itm → List (BitVec 256)
  | [] => []
  | x :: _ =>
    let n := atN l x.node.toNat
    if x.kind = 3 then [sgC (n.text.getD x.lo.toNat 0)]
    else if x.kind = 1 ∧ n.kind = 2 then [n.cls]
    else (List.range 256).map fun b => sgC (UInt8.ofNat b)
theorem sg_has (a b : UInt8) : (sgC a).getLsbD b.toNat = decide (a = b) := by
  unfold sgC
  have h1 := a.toNat_lt
  have h2 := b.toNat_lt
  rw [BitVec.getLsbD_ofNat, Nat.testBit_two_pow]
  by_cases e : a = b
  · subst e; simp; omega
  · have : a.toNat ≠ b.toNat := fun h => e (UInt8.toNat_inj.1 h)
    simp [e, this]
theorem rd_same {l : List Nd} {t : List Itm} (hrd : rdyS l t = true) {a b : UInt8} (h : ∀ C ∈ clT l t, C.getLsbD a.toNat = C.getLsbD b.toNat) : rdS l t a = rdS l t b := by
  cases t with
  | nil => rfl
  | cons x r =>
    have hfr : frS l x a = frS l x b := by
      unfold clT at h
      simp only at h
      unfold frS
      simp only
      by_cases h3 : x.kind = 3
      · rw [if_pos h3] at h
        have h1 := h _ (List.mem_singleton.2 rfl)
        rw [sg_has, sg_has, decide_eq_decide] at h1
        rw [if_pos h3, if_pos h3]
        by_cases e : (atN l x.node.toNat).text.getD x.lo.toNat 0 = a
        · rw [if_pos e, if_pos (h1.1 e)]
        · rw [if_neg e, if_neg (fun k => e (h1.2 k))]
      · rw [if_neg h3] at h
        by_cases h2 : x.kind = 1 ∧ (atN l x.node.toNat).kind = 2
        · rw [if_pos h2] at h
          have h1 := h _ (List.mem_singleton.2 rfl)
          simp [h2.1, h2.2, h1]
        · rw [if_neg h2] at h
          have h1 := h (sgC a) (List.mem_map.2 ⟨a.toNat, List.mem_range.2 a.toNat_lt, by simp⟩)
          rw [sg_has, sg_has, decide_eq_decide] at h1
          rw [h1.1 rfl]
    unfold rdS
    simp only
    rw [hfr]
theorem fm_congr {α β : Type} {f g : α → Option β} : ∀ {R : List α}, (∀ t ∈ R, f t = g t) → R.filterMap f = R.filterMap g
  | [], _ => rfl
  | a :: R, h => by rw [List.filterMap_cons, List.filterMap_cons, h a (List.mem_cons_self ..), fm_congr fun t ht => h t (List.mem_cons_of_mem _ ht)]
theorem on_same {l : List Nd} (hR : Rgt l) {s : List Itm} (hs : ∀ y ∈ s, HdF l y) {a b : UInt8} (h : ∀ t ∈ rchS l s, ∀ C ∈ clT l t, C.getLsbD a.toNat = C.getLsbD b.toNat) : onL l s a = onL l s b := by
  unfold onL
  exact fm_congr fun t ht => rd_same (rchS_ok hR.1 hs ht).1 (h t ht)
end Go.Proofs.Ytidoofdofdhjpaa
/- One byte read by a ready item: walked. -/
namespace Go.Proofs.Ytidoofdofdhjpaa
open Go Go.RowKit
set_option linter.unusedVariables false
set_option linter.unusedSimpArgs false
set_option maxRecDepth 100000
set_option maxHeartbeats 16000000

/-- A node of the description. -/
theorem nxNode_any (l : List Nd) (A : Option Addr) (c : Nat) (x : Itm) (i : Nat) (hi : i < l.length) (hx : x.node = (i : Int)) (hlen : l.length ≤ 1073741824) (w : World) (hrow : NRow w A l) :
    Calls Try.prog 47 #[.agg #[.slice A l.length c], .agg (itV x)] w (Ans w (.agg (ndC (atN l i)))) := by
  obtain ⟨kk, nn, lo, hi'⟩ := x
  simp only at hx
  subst hx
  have HS := Lib.hid (HfS.new c ⟨kk, (i : Int), lo, hi'⟩ hrow)
  clear hrow
  go_enter Try.func47, Try.ntmps47
  go_upto_region 1 with (fail)
  unfold itV at HS ⊢
  simp only at HS ⊢
  have hsz : ((w.alloc (.cells #[.slice A l.length c] 24)).alloc (.cells #[.int .i64 kk, .int .i64 (i : Int), .int .i64 lo, .int .i64 hi'] 44)).heap.size = w.heap.size + 1 + 1 := by rw [World.size_alloc, World.size_alloc]
  generalize (w.alloc (.cells #[.slice A l.length c] 24)).alloc (.cells #[.int .i64 kk, .int .i64 (i : Int), .int .i64 lo, .int .i64 hi'] 44) = w1 at HS hsz ⊢
  have hb3 := (Below.refl w1.heap.size w1).alloc (Nat.le_refl _) (.cells z10 58)
  have HS3 := Lib.hid (HS.out.later hb3)
  have HN := Lib.hid (Blk.new' hsz.symm z10 58)
  clear hb3 HS hsz
  have ez : #[Value.int .i64 0, .int .i64 0, .int .i64 0, .int .i64 0, .int .i64 0, .int .u64 0, .int .u64 0, .int .u64 0, .int .u64 0, .string { data := #[] }] = z10 := rfl
  rw [ez]
  generalize w1.alloc (.cells z10 58) = w3 at HS3 HN ⊢
  obtain ⟨ba, oa, rfl, -, -⟩ := HS3.out.s.row i hi
  have g : At10 w3 ba (oa + i * 10) (atN l i) := HS3.out.s.row.at hi rfl
  generalize atN l i = n at *
  obtain ⟨nk, na, nb, nlo, nhi, ncls, ntext⟩ := n
  unfold At10 at g
  simp only at g
  obtain ⟨g0, g1, g2, g3, g4, g5, g6, g7, g8, g9⟩ := g
  have x1 := HS3.out.it.cell 1
  have e0 := HS3.out.s.box.cell 0
  simp [itV] at x1 e0
  have HB := Lib.hid HS3.out.s.bel
  have hilz : (i : Int) < (l.length : Int) := by omega
  have hilz2 : ¬ (i : Int) ≥ (l.length : Int) := by omega
  have hin0 : ¬ (i : Int) < 0 := by omega
  have f0 := HN.out.frozen 0
  have f1 := HN.out.frozen 1
  have f2 := HN.out.frozen 2
  have f3 := HN.out.frozen 3
  have f4 := HN.out.frozen 4
  have f5 := HN.out.frozen 5
  have f6 := HN.out.frozen 6
  have f7 := HN.out.frozen 7
  have f8 := HN.out.frozen 8
  have f9 := HN.out.frozen 9
  have c0 := HN.out.cell 0
  have c1 := HN.out.cell 1
  have c2 := HN.out.cell 2
  have c3 := HN.out.cell 3
  have c4 := HN.out.cell 4
  have c5 := HN.out.cell 5
  have c6 := HN.out.cell 6
  have c7 := HN.out.cell 7
  have c8 := HN.out.cell 8
  have c9 := HN.out.cell 9
  simp [z10] at c0 c1 c2 c3 c4 c5 c6 c7 c8 c9
  go_wp2
  refine bodyPost_ret (v := .agg (ndC ⟨nk, na, nb, nlo, nhi, ncls, ntext⟩)) ?_ rfl ⟨rfl, ?_⟩
  · simp [results, Try.results47, go_sem]
    go_simp
    try rfl
  · have hg : w.heap.size ≤ w.heap.size + 1 + 1 := by omega
    repeat' (refine Below.setCell (p := ⟨w.heap.size + 1 + 1, _, none⟩) ?_ hg _)
    exact HB.out
/-- The next byte of a text. -/
theorem nxByte_any (n : Nd) (x : Itm) (h0 : 0 ≤ x.lo) (h1 : x.lo < (n.text.length : Int)) (w : World) :
    Calls Try.prog 48 #[.agg (ndC n), .agg (itV x)] w (Ans w (.tuple #[.int .u8 ((n.text.getD x.lo.toNat 0).toNat : Int), .bool true])) := by
  obtain ⟨k, hk⟩ : ∃ k : Nat, x.lo = (k : Int) := ⟨x.lo.toNat, by omega⟩
  rw [hk] at h0 h1 ⊢
  rw [Int.toNat_natCast]
  have hb1 := (Below.refl w.heap.size w).alloc (Nat.le_refl _) (.cells (ndC n) 58)
  have hb2 := hb1.alloc (hb1.size) (.cells (itV x) 44)
  have HB := Lib.hid hb2
  have HN := Lib.hid ((Blk.new w (ndC n) 58).later ((Below.refl _ _).alloc (Nat.le_refl _) (.cells (itV x) 44)))
  have HX := Blk.new (w.alloc (.cells (ndC n) 58)) (itV x) 44
  rw [World.size_alloc] at HX
  have HX := Lib.hid HX
  clear hb1 hb2
  go_enter Try.func48, Try.ntmps48
  go_upto_region 1 with (fail)
  generalize (w.alloc (.cells (ndC n) 58)).alloc (.cells (itV x) 44) = w1 at *
  have x2 := HX.out.cell 2
  have n9 := HN.out.cell 9
  simp [itV, ndC] at x2 n9
  rw [hk] at x2
  have hks : (k : Int) < ((bs n.text).size : Int) := by rw [bs_size]; exact h1
  have hks2 : ¬ (k : Int) ≥ ((bs n.text).size : Int) := by omega
  have hk0 : ¬ (k : Int) < 0 := by omega
  have hkn : k < (bs n.text).size := by omega
  have hgt : (bs n.text)[k] = n.text.getD k 0 := by rw [bs_get, List.getD_eq_getElem?_getD, List.getElem?_eq_getElem (by rw [← bs_size]; exact hkn)]; rfl
  have hix : ∀ w, (Instr.index 9 (.string (bs n.text)) (.int .i64 (k : Int))).run Try.prog w = .ok (.int .u8 ((n.text.getD k 0).toNat : Int)) w := fun w => by
    rw [run_index_string w 9 (bs n.text) .i64 (k : Int) Try.underlying9, dif_pos ⟨by omega, hks⟩]
    simp only [Int.toNat_natCast, hgt]
  clear hk hgt hkn h1
  generalize bs n.text = T at *
  go_wp2
  go_ret2
  exact ⟨rfl, HB.out⟩
/-- A reader's cells. -/
def rdC (x : Itm) (n : Nd) (c : UInt8) : Array Value := #[.int .i64 x.kind, .int .i64 x.node, .int .i64 x.lo, .int .i64 x.hi, .int .i64 n.kind, .int .i64 n.a, .int .i64 n.b, .int .i64 n.lo, .int .i64 n.hi, .int .u64 (wd n.cls 0), .int .u64 (wd n.cls 1), .int .u64 (wd n.cls 2), .int .u64 (wd n.cls 3), .string (bs n.text), .int .u8 (c.toNat : Int)]
/-- What comes in front, in new memory, or nothing. -/
def FrV (f : List Itm) (v : Value) (w : World) : Prop := (f = [] ∧ v = .slice none 0 0) ∨ ∃ b, v = .slice (some ⟨b, 0, none⟩) f.length f.length ∧ Blk w b (flatIt f).toArray 44
theorem FrV.later (f : List Itm) (v : Value) (w w' : World) (h : FrV f v w) (hb : Below w.heap.size w w') : FrV f v w' := by
  rcases h with h | ⟨b, h1, h2⟩
  · exact .inl h
  · exact .inr ⟨b, h1, h2.later hb⟩
def RdfP (o : Option (List Itm)) (w : World) (e : Ending) (w' : World) : Prop := ∃ v, e = .returned (.tuple #[v, .bool o.isSome]) ∧ (∀ f, o = some f → FrV f v w') ∧ Below w.heap.size w w'
theorem nxFramed_any (x : Itm) (n : Nd) (c : UInt8) (m : Int) (w : World) :
    Calls Try.prog 74 #[.agg (rdC x n c), .int .i64 m] w (fun e w' => ∃ v, e = .returned v ∧ FrV [⟨1, n.a, 0, 0⟩, ⟨5, 0, m, 0⟩] v w' ∧ Below w.heap.size w w') := by
  have hb1 := (Below.refl w.heap.size w).alloc (Nat.le_refl _) (.cells (rdC x n c) 93)
  have HX := Lib.hid (Blk.new w (rdC x n c) 93)
  have HB := Lib.hid hb1
  clear hb1
  go_enter Try.func74, Try.ntmps74
  go_upto_region 1 with (fail)
  generalize w.alloc (.cells (rdC x n c) 93) = w1 at *
  have r5 := HX.out.cell 5
  simp [rdC] at r5
  have hb2 := (Below.refl w1.heap.size w1).alloc (Nat.le_refl _) (.cells (flatIt [⟨1, n.a, 0, 0⟩, ⟨5, 0, m, 0⟩]).toArray 44)
  have HB2 := Lib.hid (HB.out.trans (hb2.mono HB.out.size))
  have HN := Lib.hid (Blk.new w1 (flatIt [⟨1, n.a, 0, 0⟩, ⟨5, 0, m, 0⟩]).toArray 44)
  clear hb2
  have e9 : (flatIt [⟨1, n.a, 0, 0⟩, ⟨5, 0, m, 0⟩]).toArray = #[.int .i64 1, .int .i64 n.a, .int .i64 0, .int .i64 0, .int .i64 5, .int .i64 0, .int .i64 m, .int .i64 0] := rfl
  have HE9 := Lib.hid e9
  rw [e9] at HN HB2
  clear e9
  go_wp2
  go_ret
  exact ⟨_, rfl, .inr ⟨_, rfl, by rw [HE9.out]; exact HN.out⟩, HB2.out⟩
/-- What a whole node reads. -/
def whF (n : Nd) (x : Itm) (c : UInt8) : Option (List Itm) :=
  if n.kind = 8 then some [⟨1, n.a, 0, 0⟩, ⟨5, 0, (c.toNat : Int), 0⟩]
  else if n.kind = 9 then some [⟨4, x.node, (c.toNat : Int), 0⟩]
  else if n.cls.getLsbD c.toNat = true then some [] else none
theorem nxWhole_any (x : Itm) (n : Nd) (c : UInt8) (hk : n.kind = 2 ∨ n.kind = 8 ∨ n.kind = 9) (w : World) :
    Calls Try.prog 51 #[.agg (rdC x n c)] w (RdfP (whF n x c) w) := by
  have hb1 := (Below.refl w.heap.size w).alloc (Nat.le_refl _) (.cells (rdC x n c) 93)
  have HX := Lib.hid (Blk.new w (rdC x n c) 93)
  have HB := Lib.hid hb1
  have HH := Lib.hid (fun w => has_any n.cls c.toNat c.toNat_lt w)
  have HF := Lib.hid (fun w => nxFramed_any x n c (c.toNat : Int) w)
  obtain ⟨o, ho⟩ : ∃ o, whF n x c = o := ⟨_, rfl⟩
  have HO := Lib.hid ho
  rw [ho]
  clear hb1 ho
  have hc := c.toNat_lt
  go_enter Try.func51, Try.ntmps51
  go_upto_region 1 with (fail)
  generalize w.alloc (.cells (rdC x n c) 93) = w1 at *
  have r1 := HX.out.cell 1
  have r4 := HX.out.cell 4
  have r9 := HX.out.cell 9
  have r10 := HX.out.cell 10
  have r11 := HX.out.cell 11
  have r12 := HX.out.cell 12
  have r14 := HX.out.cell 14
  have ra0 := HX.out.cell 0
  have ra2 := HX.out.cell 2
  have ra3 := HX.out.cell 3
  have ra5 := HX.out.cell 5
  have ra6 := HX.out.cell 6
  have ra7 := HX.out.cell 7
  have ra8 := HX.out.cell 8
  have ra13 := HX.out.cell 13
  unfold rdC at HF HX
  simp [rdC] at r1 r4 r9 r10 r11 r12 r14 ra0 ra2 ra3 ra5 ra6 ra7 ra8 ra13
  unfold cls at HH
  rcases hk with hk | hk | hk
  · have HO2 : Hid (o = if n.cls.getLsbD c.toNat = true then some [] else none) := by
      unfold Hid; rw [← HO.out]; unfold whF; rw [if_neg (by omega), if_neg (by omega)]
    rw [hk] at r4
    clear hk HO ra0 ra2 ra3 ra5 ra6 ra7 ra8 ra13 HF
    generalize n.cls.getLsbD c.toNat = q at *
    go_wp2_with ((with_reducible refine (HH.out _).mono ?_); rintro e w' ⟨rfl, hb⟩; have HB3 := Lib.hid (HB.out.trans (hb.mono HB.out.size)); clear hb)
    go_ret2
    cases q with
    | true => exact ⟨_, by rw [HO2.out]; rfl, (fun f hf => by rw [HO2.out] at hf; cases hf; exact .inl ⟨rfl, rfl⟩), HB3.out⟩
    | false => exact ⟨_, by rw [HO2.out]; rfl, (fun f hf => by rw [HO2.out] at hf; cases hf), HB3.out⟩
  · have HO2 : Hid (o = some [⟨1, n.a, 0, 0⟩, ⟨5, 0, (c.toNat : Int), 0⟩]) := by
      unfold Hid; rw [← HO.out]; unfold whF; rw [if_pos hk]
    rw [hk] at r4 HF
    clear hk HO HH
    go_wp2_with ((refine (HF.out _).mono ?_); rintro e w' ⟨v, rfl, hv, hb⟩; have HV := Lib.hid hv; have HB3 := Lib.hid (HB.out.trans (hb.mono HB.out.size)); clear hb hv)
    go_ret2
    exact ⟨_, by rw [HO2.out]; rfl, fun f hf => by rw [HO2.out] at hf; cases hf; exact HV.out, HB3.out⟩
  · have HO2 : Hid (o = some [⟨4, x.node, (c.toNat : Int), 0⟩]) := by
      unfold Hid; rw [← HO.out]; unfold whF; rw [if_neg (by omega), if_pos hk]
    rw [hk] at r4
    clear hk HO HH HF
    have hb2 := (Below.refl w1.heap.size w1).alloc (Nat.le_refl _) (.cells (flatIt [⟨4, x.node, (c.toNat : Int), 0⟩]).toArray 44)
    have HB2 := Lib.hid (HB.out.trans (hb2.mono HB.out.size))
    have HN := Lib.hid (Blk.new w1 (flatIt [⟨4, x.node, (c.toNat : Int), 0⟩]).toArray 44)
    clear hb2
    have e9 : (flatIt [⟨4, x.node, (c.toNat : Int), 0⟩]).toArray = #[.int .i64 4, .int .i64 x.node, .int .i64 (c.toNat : Int), .int .i64 0] := rfl
    have HE9 := Lib.hid e9
    rw [e9] at HN HB2
    clear e9
    go_wp2
    go_ret2
    exact ⟨_, by rw [HO2.out]; rfl, (fun f hf => by rw [HO2.out] at hf; cases hf; exact .inr ⟨_, rfl, by rw [HE9.out]; exact HN.out⟩), HB2.out⟩
theorem nxHalf_any (x : Itm) (n : Nd) (c : UInt8) (h0 : 0 ≤ x.lo) (h1 : x.lo ≤ 255) (w : World) :
    Calls Try.prog 53 #[.agg (rdC x n c)] w (RdfP (some [⟨1, n.a, 0, 0⟩, ⟨5, 0, 256 * x.lo + (c.toNat : Int), 0⟩]) w) := by
  have hb1 := (Below.refl w.heap.size w).alloc (Nat.le_refl _) (.cells (rdC x n c) 93)
  have HX := Lib.hid (Blk.new w (rdC x n c) 93)
  have HB := Lib.hid hb1
  have HF := Lib.hid (fun w => nxFramed_any x n c (256 * x.lo + (c.toNat : Int)) w)
  clear hb1
  have hc := c.toNat_lt
  go_enter Try.func53, Try.ntmps53
  go_upto_region 1 with (fail)
  generalize w.alloc (.cells (rdC x n c) 93) = w1 at *
  have r0 := HX.out.cell 0
  have r1 := HX.out.cell 1
  have r2 := HX.out.cell 2
  have r3 := HX.out.cell 3
  have r4 := HX.out.cell 4
  have r5 := HX.out.cell 5
  have r6 := HX.out.cell 6
  have r7 := HX.out.cell 7
  have r8 := HX.out.cell 8
  have r9 := HX.out.cell 9
  have r10 := HX.out.cell 10
  have r11 := HX.out.cell 11
  have r12 := HX.out.cell 12
  have r13 := HX.out.cell 13
  have r14 := HX.out.cell 14
  unfold rdC at HF HX
  simp [rdC] at r0 r1 r2 r3 r4 r5 r6 r7 r8 r9 r10 r11 r12 r13 r14
  go_wp2_with ((refine (HF.out _).mono ?_); rintro e w' ⟨v, rfl, hv, hb⟩; have HV := Lib.hid hv; have HB3 := Lib.hid (HB.out.trans (hb.mono HB.out.size)); clear hb hv)
  go_ret2
  exact ⟨_, rfl, fun f hf => by cases hf; exact HV.out, HB3.out⟩
end Go.Proofs.Ytidoofdofdhjpaa
/- A text's next byte read: walked. -/
namespace Go.Proofs.Ytidoofdofdhjpaa
open Go Go.RowKit
set_option linter.unusedVariables false
set_option linter.unusedSimpArgs false
set_option maxRecDepth 100000
set_option maxHeartbeats 16000000

/-- What a text reads. -/
def txF (n : Nd) (x : Itm) (c : UInt8) : Option (List Itm) := if n.text.getD x.lo.toNat 0 = c then some (if x.lo + 1 < (n.text.length : Int) then [⟨x.kind, x.node, x.lo + 1, x.hi⟩] else []) else none
theorem nxText_any (x : Itm) (n : Nd) (c : UInt8) (h0 : 0 ≤ x.lo) (h1 : x.lo < (n.text.length : Int)) (ht : n.text.length ≤ 281474976710656) (w : World) :
    Calls Try.prog 52 #[.agg (rdC x n c)] w (RdfP (txF n x c) w) := by
  obtain ⟨kk, nn, lo, hi⟩ := x
  simp only at h0 h1
  obtain ⟨k, rfl⟩ : ∃ k : Nat, lo = (k : Int) := ⟨lo.toNat, by omega⟩
  have hb1 := (Below.refl w.heap.size w).alloc (Nat.le_refl _) (.cells (rdC ⟨kk, nn, (k : Int), hi⟩ n c) 93)
  have HX := Lib.hid (Blk.new w (rdC ⟨kk, nn, (k : Int), hi⟩ n c) 93)
  have HB := Lib.hid hb1
  have HF := Lib.hid (fun w => nxByte_any n ⟨kk, nn, (k : Int), hi⟩ h0 h1 w)
  clear hb1
  have hc := c.toNat_lt
  obtain ⟨o, ho⟩ : ∃ o, txF n ⟨kk, nn, (k : Int), hi⟩ c = o := ⟨_, rfl⟩
  have HO := Lib.hid ho
  rw [ho]
  clear ho
  unfold txF at HO
  simp only [Int.toNat_natCast] at HO HF
  go_enter Try.func52, Try.ntmps52
  go_upto_region 1 with (fail)
  generalize w.alloc (.cells (rdC ⟨kk, nn, (k : Int), hi⟩ n c) 93) = w1 at *
  have HSZ : Hid ((bs n.text).size = n.text.length) := bs_size _
  obtain ⟨u, hu⟩ : ∃ u, n.text.getD k 0 = u := ⟨_, rfl⟩
  rw [hu] at HF HO
  clear hu
  have hkm : k < n.text.length := by omega
  generalize hlm : n.text.length = m at *
  clear hlm
  obtain ⟨nk, na, nb, nlo, nhi, ncls, ntext⟩ := n
  simp only at HSZ
  unfold ndC itV at HF
  unfold rdC at HX
  simp only at HF HX
  generalize bs ntext = T at *
  generalize (wd ncls 0 : Int) = a0 at *
  generalize (wd ncls 1 : Int) = a1 at *
  generalize (wd ncls 2 : Int) = a2 at *
  generalize (wd ncls 3 : Int) = a3 at *
  have r0 := HX.out.cell 0
  have r1 := HX.out.cell 1
  have r2 := HX.out.cell 2
  have r3 := HX.out.cell 3
  have r4 := HX.out.cell 4
  have r5 := HX.out.cell 5
  have r6 := HX.out.cell 6
  have r7 := HX.out.cell 7
  have r8 := HX.out.cell 8
  have r9 := HX.out.cell 9
  have r10 := HX.out.cell 10
  have r11 := HX.out.cell 11
  have r12 := HX.out.cell 12
  have r13 := HX.out.cell 13
  have r14 := HX.out.cell 14
  simp at r0 r1 r2 r3 r4 r5 r6 r7 r8 r9 r10 r11 r12 r13 r14
  by_cases huc : u = c
  · subst huc
    have HO2 : Hid (o = some (if (k : Int) + 1 < (m : Int) then [⟨kk, nn, (k : Int) + 1, hi⟩] else [])) := by unfold Hid; rw [← HO.out, if_pos rfl]
    have hnq : ((u.toNat : Int) != (u.toNat : Int)) = false := by simp
    clear HO
    go_wp2_with fail
    refine (HF.out _).mono ?_; rintro e w' ⟨rfl, hb⟩
    have HB3 := Lib.hid (HB.out.trans (hb.mono HB.out.size))
    have HX3 := Lib.hid (HX.out.later hb)
    clear hb HB HX HF r0 r1 r2 r3 r4 r5 r6 r7 r8 r9 r10 r11 r12 r13 r14
    have r0 := HX3.out.cell 0
    have r1 := HX3.out.cell 1
    have r2 := HX3.out.cell 2
    have r3 := HX3.out.cell 3
    have r13 := HX3.out.cell 13
    have r14 := HX3.out.cell 14
    simp at r0 r1 r2 r3 r13 r14
    generalize u.toNat = un at *
    have hbA := (Below.refl w'.heap.size w').alloc (Nat.le_refl _) (.cells #[.int .i64 kk, .int .i64 nn, .int .i64 (k : Int), .int .i64 hi] 44)
    have HXA := Lib.hid (Blk.new w' #[.int .i64 kk, .int .i64 nn, .int .i64 (k : Int), .int .i64 hi] 44)
    have HBA := Lib.hid (HB3.out.trans (hbA.mono HB3.out.size))
    have HXX := Lib.hid (HX3.out.later hbA)
    have HLE := Lib.hid HB3.out.size
    go_upto_region 5 with (fail)
    clear r0 r1 r2 r3 r13 r14 hbA HX3 HB3
    generalize w'.alloc (.cells #[.int .i64 kk, .int .i64 nn, .int .i64 (k : Int), .int .i64 hi] 44) = w4 at *
    generalize w'.heap.size = bx at *
    have x2 := HXA.out.cell 2
    have f2 := HXA.out.frozen 2
    simp at x2
    have hx5 := HXA.out.setCell 2 (.int .i64 ((k : Int) + 1))
    have HX5 : Blk (w4.setCell ⟨bx, 2, none⟩ (.int .i64 ((k : Int) + 1))) bx #[.int .i64 kk, .int .i64 nn, .int .i64 ((k : Int) + 1), .int .i64 hi] 44 := by simpa using hx5
    have HX5 := Lib.hid HX5
    have HB5 := Lib.hid (HBA.out.setCell (p := ⟨bx, 2, none⟩) HLE.out (.int .i64 ((k : Int) + 1)))
    have hrb := (HXX.out.setCell_ne (a := ⟨bx, 2, none⟩) (blk_typ HXA.out HXX.out (by decide)) (.int .i64 ((k : Int) + 1)))
    have r13 := hrb.cell 13
    simp at r13
    have hkb : (k : Int) + 1 ≤ 9223372036854775807 := by omega
    go_upto_region 6 with (fail)
    clear x2 f2 hx5 hrb HXX HXA HBA
    generalize w4.setCell ⟨bx, 2, none⟩ (.int .i64 ((k : Int) + 1)) = w5 at *
    have x0 := HX5.out.cell 0
    have x1 := HX5.out.cell 1
    have x2 := HX5.out.cell 2
    have x3 := HX5.out.cell 3
    simp at x0 x1 x2 x3
    by_cases hlast : (k : Int) + 1 < (m : Int)
    · have hq : ((k : Int) + 1 == (T.size : Int)) = false := by rw [beq_eq_false_iff_ne, HSZ.out]; omega
      have HO3 : Hid (o = some [⟨kk, nn, (k : Int) + 1, hi⟩]) := by unfold Hid; rw [HO2.out, if_pos hlast]
      have hb6 := (Below.refl w5.heap.size w5).alloc (Nat.le_refl _) (.cells #[.int .i64 kk, .int .i64 nn, .int .i64 ((k : Int) + 1), .int .i64 hi] 44)
      have HB6 := Lib.hid (HB5.out.trans (hb6.mono HB5.out.size))
      have HN := Lib.hid (Blk.new w5 #[.int .i64 kk, .int .i64 nn, .int .i64 ((k : Int) + 1), .int .i64 hi] 44)
      clear hb6 hlast HO2 h1 hkm
      generalize (k : Int) + 1 = k1 at *
      go_wp2
      go_ret2
      exact ⟨_, by rw [HO3.out]; rfl, (fun f hf => by rw [HO3.out] at hf; cases hf; exact .inr ⟨_, rfl, HN.out⟩), HB6.out⟩
    · have hq : ((k : Int) + 1 == (T.size : Int)) = true := by rw [beq_iff_eq, HSZ.out]; omega
      have HO3 : Hid (o = some []) := by unfold Hid; rw [HO2.out, if_neg hlast]
      clear hlast HO2 h1 hkm
      generalize (k : Int) + 1 = k1 at *
      go_wp2
      go_ret2
      exact ⟨_, by rw [HO3.out]; rfl, (fun f hf => by rw [HO3.out] at hf; cases hf; exact .inl ⟨rfl, rfl⟩), HB5.out⟩
  · have hnq : ((u.toNat : Int) != (c.toNat : Int)) = true := by
      rw [bne_iff_ne]
      intro e
      exact huc (UInt8.toNat_inj.1 (by omega))
    have HO2 : Hid (o = none) := by unfold Hid; rw [← HO.out, if_neg huc]
    generalize u.toNat = un at *
    clear huc HO
    go_wp2_with fail
    refine (HF.out _).mono ?_; rintro e w' ⟨rfl, hb⟩
    have HB3 := Lib.hid (HB.out.trans (hb.mono HB.out.size)); have HX3 := Lib.hid (HX.out.later hb); have r14b := HX3.out.cell 14; simp at r14b; clear hb HB HX HF r0 r1 r2 r3 r4 r5 r6 r7 r8 r9 r10 r11 r12 r13 r14
    go_wp2
    go_ret2
    exact ⟨_, by rw [HO2.out]; rfl, (fun f hf => by rw [HO2.out] at hf; cases hf), HB3.out⟩
end Go.Proofs.Ytidoofdofdhjpaa
