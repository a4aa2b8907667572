/- The parser's lay: walked. -/
import Derived.Test.YtcgjmnhmhiddkaaDoorM25
import Derived.Test.YtcgjmnhmhiddkaaDoorM06
namespace Go.Proofs.YtcgjmnhmhiddkaaDoor
open Go Go.RowKit
set_option linter.unusedVariables false
set_option linter.unusedSimpArgs false

theorem wrap_of {x : Int} (h : x ≤ 1073741824) (h0 : 0 ≤ x) : wrap64 x = x := by unfold wrap64; omega
/-- What an append to the nodes does. -/
def LyR (B : Nat) (nv : Value) (nodes : List Nd) (n : Nd) (w w' : World) : Prop := w.grownBy w' nv.ownBlock ∧ (OwnN w B nv nodes → OwnN w' B nv nodes) ∧ (∀ u, OwnN w B u (nodes ++ [n]) → OwnN w' B u (nodes ++ [n]))
theorem LyR.of {B : Nat} {nv : Value} {nodes : List Nd} {n : Nd} (w w' : World) (hb : Below w.heap.size w w') : LyR B nv nodes n w w' := ⟨gb_of hb, fun h => h.later hb, fun u h => h.later hb⟩
theorem Blk.gb {w w' : World} {b : Nat} {vs : Array Value} {t : TypeId} {ro : Option Nat} (h : Blk w b vs t) (hne : ro ≠ some b) (hg : w.grownBy w' ro) : Blk w' b vs t := (hg.block b h.lt (fun e => hne e.symm)).trans h
section
variable {w : World} {B pb : Nat} {A : Option Addr} {cp : Nat} {l : List Tk} {s : PS} {ov nv av : Value}
theorem Pst0.fresh (h : Pst0 w B pb A cp l s ov nv av) : nv.ownBlock ≠ some w.heap.size := fun e => Nat.lt_irrefl _ (World.ownsRow.lt h.nodes _ e).2
theorem Pst0.grow {w' : World} {n : Nd} (h : Pst0 w B pb A cp l s ov nv av) (hr : LyR B nv s.nodes n w w') : Pst0 w' B pb A cp l s ov nv av := by
  have hn : ∀ k, nv.ownBlock = some k → B ≤ k := fun k hk => (World.ownsRow.lt h.nodes k hk).1
  have hp : nv.ownBlock ≠ some pb := fun e => own_typed h.nodes h.blk (by decide) pb e rfl
  have hB : Below B w w' := (Below.refl B w).grown hr.1 (Nat.le_of_lt (Nat.lt_of_le_of_lt h.base h.blk.lt)) hn
  have ne : ∀ {v : Value} {xs : List Int}, OwnI w B v xs → v.ownBlock = none ∨ v.ownBlock ≠ nv.ownBlock := fun {v xs} hv => by
    rcases hv.2 with ⟨e, _⟩ | ⟨g, c, cur, e, _, hg, _⟩
    · left; rw [e]; rfl
    · right
      rw [e]
      exact fun ee => own_typed h.nodes (show Blk w g cur 3 from hg) (by decide) g ee.symm rfl
  exact ⟨h.blk.gb hp hr.1, World.ownsRow.kept h.opn hr.1 (ne h.opn), hr.2.1 h.nodes, World.ownsRow.kept h.ats hr.1 (ne h.ats), h.apart, h.row.below h.low hB, h.low, h.base, h.long, h.rd, h.ct, h.op⟩
/-- What lay holds while it runs. -/
structure LyS (w0 : World) (B pb : Nat) (A : Option Addr) (cp : Nat) (l : List Tk) (s : PS) (ov nv av : Value) (bx : Nat) (n : Nd) (w : World) : Prop where
  bel : Fr B w0 w
  st : Pst0 w B pb A cp l s ov nv av
  box : Blk w bx (ndC n) 35
  ne : nv.ownBlock ≠ some bx
/-- The nodes' row is put where it belongs. -/
theorem Pst0.setNodes (h : Pst0 w B pb A cp l s ov nv av) {v : Value} {m : List Nd} (hv : OwnN w B v m) : Pst0 (w.setCell ⟨pb, 3, none⟩ v) B pb A cp l { s with nodes := m } ov v av := by
  have hb := h.blk.setCell 3 v
  exact ⟨by simpa using hb, own_set h.opn (own_typed h.opn h.blk (by decide)) _, own_set hv (own_typed hv h.blk (by decide)) _, own_set h.ats (own_typed h.ats h.blk (by decide)) _, h.apart,
    h.row.below h.low ((Below.refl B w).setCell (p := ⟨pb, 3, none⟩) h.base _), h.low, h.base, h.long, h.rd, h.ct, h.op⟩
/-- A place more, put where it belongs. -/
theorem Pst0.setAts {w' : World} {v : Value} {p : Int} (h : Pst0 w B pb A cp l s ov nv av) (h1 : OwnI w' B v (s.ats ++ [p])) (h2 : w.grownBy w' av.ownBlock) (h3 : v.ownBlock = av.ownBlock ∨ ∃ g', v.ownBlock = some g' ∧ w.heap.size ≤ g') :
    Blk w' pb #[.slice A l.length cp, .int .i64 (s.read : Int), ov, nv, av, .int .i64 (s.count : Int)] 65 ∧ Pst0 (w'.setCell ⟨pb, 4, none⟩ v) B pb A cp l { s with ats := s.ats ++ [p] } ov nv v := by
  have hn : ∀ k, av.ownBlock = some k → B ≤ k := fun k hk => (World.ownsRow.lt h.ats k hk).1
  have hp : av.ownBlock ≠ some pb := fun e => own_typed h.ats h.blk (by decide) pb e rfl
  have hB : Below B w w' := (Below.refl B w).grown h2 (Nat.le_of_lt (Nat.lt_of_le_of_lt h.base h.blk.lt)) hn
  have no : ov.ownBlock = none ∨ ov.ownBlock ≠ av.ownBlock := by
    cases hh : ov.ownBlock with
    | none => left; rfl
    | some g => right; exact fun e => h.apart g hh e.symm
  have nn : nv.ownBlock = none ∨ nv.ownBlock ≠ av.ownBlock := by
    rcases h.nodes.2 with ⟨e, _⟩ | ⟨g, c, cur, e, _, hg, _⟩
    · left; rw [e]; rfl
    · right
      rw [e]
      exact fun ee => own_typed h.ats (show Blk w g cur 35 from hg) (by decide) g ee.symm rfl
  have b4 := h.blk.gb hp h2
  have o4 : OwnI w' B ov s.opn := World.ownsRow.kept h.opn h2 no
  have n4 : OwnN w' B nv s.nodes := World.ownsRow.kept h.nodes h2 nn
  refine ⟨b4, by simpa using b4.setCell 4 v, own_set o4 (own_typed o4 b4 (by decide)) _, own_set n4 (own_typed n4 b4 (by decide)) _, own_set h1 (own_typed h1 b4 (by decide)) _, fun g hg => ?_,
    (h.row.below h.low hB).below h.low ((Below.refl B w').setCell (p := ⟨pb, 4, none⟩) h.base _), h.low, h.base, h.long, h.rd, h.ct, h.op⟩
  rcases h3 with h3 | ⟨g', h3, hg'⟩
  · rw [h3]; exact h.apart g hg
  · rw [h3]
    have := (World.ownsRow.lt h.opn g hg).2
    intro e; cases e; omega
/-- One more is counted. -/
theorem Pst0.more (h : Pst0 w B pb A cp l s ov nv av) (hc : s.count < 1073741824) : Pst0 (w.setCell ⟨pb, 5, none⟩ (.int .i64 ((s.count : Int) + 1))) B pb A cp l { s with count := s.count + 1 } ov nv av := by
  have hb := h.blk.setCell 5 (.int .i64 ((s.count : Int) + 1))
  exact ⟨by simpa using hb, own_set h.opn (own_typed h.opn h.blk (by decide)) _, own_set h.nodes (own_typed h.nodes h.blk (by decide)) _, own_set h.ats (own_typed h.ats h.blk (by decide)) _, h.apart,
    h.row.below h.low ((Below.refl B w).setCell (p := ⟨pb, 5, none⟩) h.base _), h.low, h.base, h.long, h.rd, by simp only; omega, h.op⟩
theorem LyS.grow {w0 w' : World} {bx : Nat} {n : Nd} (h : LyS w0 B pb A cp l s ov nv av bx n w) (hr : LyR B nv s.nodes n w w') : LyS w0 B pb A cp l s ov nv av bx n w' :=
  ⟨h.bel.row h.st.nodes (Nat.le_refl _) (by decide) (Nat.le_of_lt (Nat.lt_of_le_of_lt h.st.base h.st.blk.lt)) hr.1, h.st.grow hr, h.box.gb h.ne hr.1, h.ne⟩
end
def NewY (nv : Value) (n : Nd) (v : Value) (w : World) : Prop := ∃ b, v = .slice (some ⟨b, 0, none⟩) 1 1 ∧ Blk w b (ndC n) 35 ∧ nv.ownBlock ≠ some b
theorem NewY.grow {B : Nat} {nv : Value} {nodes : List Nd} (n : Nd) (v : Value) (w w' : World) (h : NewY nv n v w) (hr : LyR B nv nodes n w w') : NewY nv n v w' := by
  obtain ⟨b, h1, h2, h3⟩ := h
  exact ⟨b, h1, h2.gb h3 hr.1, h3⟩
def AppY (B : Nat) (nodes : List Nd) (n : Nd) (v : Value) (w : World) : Prop := OwnN w B v (nodes ++ [n])
theorem AppY.grow {B : Nat} {nv : Value} (nodes : List Nd) (n : Nd) (v : Value) (w w' : World) (h : AppY B nodes n v w) (hr : LyR B nv nodes n w w') : AppY B nodes n v w' := hr.2.2 v h
section
variable {w : World} {B pb : Nat} {A : Option Addr} {cp : Nat} {l : List Tk} {s : PS} {ov nv av : Value}
set_option maxHeartbeats 8000000 in
set_option maxRecDepth 100000 in
theorem lay_any (hP : Pst0 w B pb A cp l s ov nv av) (n : Nd) (p : Int) (hc : s.count < 1073741824) (hnl : s.nodes.length < 1073741824) (hal : s.ats.length < 1073741824) :
    Calls Tryd.prog 42 #[.pointer (some ⟨pb, 0, none⟩), .agg (ndC n), .int .i64 p] w (RunPost B pb A cp l w (.ok (s.count : Int) (s.lay n p))) := by
  have hlt0 := hP.blk.lt
  have hBw : B ≤ w.heap.size := Nat.le_of_lt (Nat.lt_of_le_of_lt hP.base hlt0)
  have HS1 : Hid (LyS w B pb A cp l s ov nv av w.heap.size n (w.alloc (.cells (ndC n) 35))) :=
    ⟨Fr.of ((Below.refl _ _).alloc (Nat.le_refl _) _) hBw, hP.later ((Below.refl _ _).alloc (Nat.le_refl _) _), Blk.new w _ _, fun e => by have := (World.ownsRow.lt hP.nodes _ e).2; omega⟩
  clear hP
  unfold ndC at HS1 ⊢
  go_enter Tryd.func42, Tryd.ntmps42
  go_upto_region 1 with (fail)
  generalize w.alloc (.cells #[.int .i64 n.kind, .int .i64 n.a, .int .i64 n.b, .int .i64 n.lo, .int .i64 n.hi, .int .u64 (wd n.cls 0), .int .u64 (wd n.cls 1), .int .u64 (wd n.cls 2), .int .u64 (wd n.cls 3), .string (bs n.text)] 35) = w1 at *
  have c5 := HS1.out.st.blk.cell 5
  simp at c5
  by_cases hlt : s.count < 4096
  · have hd : decide ((s.count : Int) < 4096) = true := decide_eq_true (by omega)
    have hltz : (s.count : Int) < 4096 := by omega
    go_upto_region 2 with (fail)
    clear c5
    have hR : ∀ w w', Below w.heap.size w w' → LyR B nv s.nodes n w w' := fun w w' => LyR.of w w'
    have HR := Lib.hid hR
    clear hR
    refine G.wp_region_stable_tail (R := (LyR B nv s.nodes n)) HR.out 10 (S := (LyS w B pb A cp l s ov nv av w.heap.size n)) (hSt := fun _ _ h hr => h.grow hr) (plan := [[(0, none)], [(0, none)], [(13, some 1)], [(14, some 2)], [(15, some 3)], [(4, none)], [(17, some 5)], [(16, some 4), (18, some 6)], [(12, some 0)], [(20, some 8)]]) rfl rfl (by kernel_rfl) (by kernel_rfl) (by kernel_rfl) (by kernel_rfl) ?hS ?_
    rotate_left
    iterate 6 first
      | (refine G.chain_skip (by rfl) (by rfl) ?_)
      | (apply G.chain_want (by rfl)
         · intro act wx hS hr
           simp at hr
           have c3 := hS.st.blk.cell 3
           have cl := hS.st.blk.lt
           obtain ⟨f0, f1, f2, f3, f4, f5, f6, f7, f8, f9⟩ := ten_cells hS.box
           simp at c3
           go_simp
           (try go_ints)
           first
             | exact G.Done.same HR.out (v := .agg (ndC n))
             | exact G.Done.same HR.out
        )
    (refine G.chain_rel (NewY nv n) (NewY.grow n) (by rfl) ?_ ?_
     · intro act wx hS hr
       simp at hr
       have c3 := hS.st.blk.cell 3
       have cl := hS.st.blk.lt
       obtain ⟨f0, f1, f2, f3, f4, f5, f6, f7, f8, f9⟩ := ten_cells hS.box
       simp at c3
       unfold ndC at hr
       clear f0 f1 f2 f3 f4 f5 f6 f7 f8 f9 c3
       all_goals go_simp
       exact G.Done.rel (HR.out _ _ ((Below.refl _ _).alloc (Nat.le_refl _) _)) ⟨_, rfl, Blk.new wx (ndC n) _, hS.st.fresh⟩
    )
    (refine G.chain_rel (AppY B s.nodes n) (AppY.grow s.nodes n) (by rfl) ?_ ?_
     · intro act wx hS hr
       simp at hr
       have c3 := hS.st.blk.cell 3
       have cl := hS.st.blk.lt
       obtain ⟨f0, f1, f2, f3, f4, f5, f6, f7, f8, f9⟩ := ten_cells hS.box
       simp at c3
       obtain ⟨hr2, v, hr3, b, rfl, hk, hne⟩ := hr
       refine wp_append_nd2 (.tmp 16) (.tmp 18) rfl B nv s.nodes (by simp [Act.eval, hr2]) hS.st.nodes b n (by simp [Act.eval, hr3]) hk hnl (Nat.le_of_lt (Nat.lt_of_le_of_lt hS.st.base cl)) ?_
       intro v' w' q1 q2 q3 q4 q5
       exact G.Done.rel ⟨q2, fun _ => q4, q5⟩ q1
       all_goals go_simp
    )
    iterate 2 first
      | (refine G.chain_skip (by rfl) (by rfl) ?_)
      | (apply G.chain_want (by rfl)
         · intro act wx hS hr
           simp at hr
           have c3 := hS.st.blk.cell 3
           have cl := hS.st.blk.lt
           obtain ⟨f0, f1, f2, f3, f4, f5, f6, f7, f8, f9⟩ := ten_cells hS.box
           simp at c3
           go_simp
           (try go_ints)
           first
             | exact G.Done.same HR.out (v := .agg (ndC n))
             | exact G.Done.same HR.out
        )
    show ∀ w', _ → _
    intro wz hz
    simp [Act.put]
    case hS => exact HS1.out
    intro v6 hv6 v7 hv7
    have hv8 : OwnN wz B v7 (s.nodes ++ [n]) := hv7
    obtain ⟨a7, k7, rfl, -⟩ := hv8.row
    have HP3 := Lib.hid (hz.st.setNodes hv8)
    have HB3 := Lib.hid (hz.bel.setP0 hz.st 3 (.slice a7 (s.nodes ++ [n]).length k7))
    have c3 := hz.st.blk.cell 3
    have cf := hz.st.blk.frozen
    simp at c3
    clear hz hv6 hv7 hv8 HS1 HR
    generalize (s.nodes ++ [n]).length = nn at *
    go_upto_region 3 with (fail)
    generalize wz.setCell ⟨pb, 3, none⟩ (.slice a7 nn k7) = w2 at *
    clear c3 cf
    obtain ⟨a8, k8, hav, -⟩ := HP3.out.ats.row
    subst hav
    have c4 := HP3.out.blk.cell 4
    have cf := HP3.out.blk.frozen
    simp at c4
    have HBN := Lib.hid (Blk.new w2 #[.int .i64 p] 3)
    have HP4 := Lib.hid (HP3.out.later ((Below.refl _ _).alloc (Nat.le_refl _) (.cells #[.int .i64 p] 3)))
    have HB4 := Lib.hid (HB3.out.alloc (Nat.le_of_lt (Nat.lt_of_le_of_lt HP3.out.base HP3.out.blk.lt)) (.cells #[.int .i64 p] 3))
    go_wp2_with (at_builtin; refine wpList_append_int rfl _ _ rfl B (.slice a8 s.ats.length k8) s.ats rfl HP4.out.ats _ p rfl HBN.out hal (Nat.le_of_lt (Nat.lt_of_le_of_lt HP4.out.base HP4.out.blk.lt)) ?_; intro v' w4 h1 h2 h3; obtain ⟨a9, k9, rfl, -⟩ := h1.row; generalize (s.ats ++ [p]).length = mm at *; obtain ⟨hb5, hp5⟩ := HP4.out.setAts h1 h2 h3; have HP5 := Lib.hid hp5; have HB5 := Lib.hid ((HB4.out.row HP4.out.ats (Nat.le_refl _) (by decide) (Nat.le_of_lt (Nat.lt_of_le_of_lt HP4.out.base HP4.out.blk.lt)) h2).setB hb5 (by decide) HP4.out.base 4 (.slice a9 mm k9)); have d4 := hb5.cell 4; have d5 := hb5.cell 5; have df := hb5.frozen; simp at d4 d5; have hw := wrap_of (by omega : (s.count : Int) + 1 ≤ 1073741824) (by omega : (0 : Int) ≤ (s.count : Int) + 1); have hw2 := wrap_of (by omega : (s.count : Int) ≤ 1073741824) (by omega : (0 : Int) ≤ (s.count : Int)); clear hb5 hp5 h1 h2 h3 HP3 HB3 HP4 HB4 HBN c4 cf)
    have HL : Hid (s.lay n p = { read := s.read, opn := s.opn, nodes := s.nodes ++ [n], ats := s.ats ++ [p], count := s.count + 1 }) := by unfold Hid PS.lay; rw [if_pos hlt]
    have HP6 := Lib.hid (HP5.out.more hc)
    have HB6 := Lib.hid (HB5.out.setP0 HP5.out 5 (.int .i64 ((s.count : Int) + 1)))
    exact bodyPost_ret (v := .int .i64 (s.count : Int)) (by simp [results, Tryd.results42, go_sem]) rfl ⟨rfl, by rw [HL.out]; exact ⟨_, _, _, HP6.out⟩, HB6.out⟩
  · have hd : decide ((s.count : Int) < 4096) = false := decide_eq_false (by omega)
    have hnz : ¬ ((s.count : Int) < 4096) := by omega
    have HL : Hid (s.lay n p = { s with count := s.count + 1 }) := by unfold Hid PS.lay; rw [if_neg hlt]
    have df := HS1.out.st.blk.frozen
    have hw := wrap_of (by omega : (s.count : Int) + 1 ≤ 1073741824) (by omega : (0 : Int) ≤ (s.count : Int) + 1)
    have hw2 := wrap_of (by omega : (s.count : Int) ≤ 1073741824) (by omega : (0 : Int) ≤ (s.count : Int))
    have HP6 := Lib.hid (HS1.out.st.more hc)
    have HB6 := Lib.hid (HS1.out.bel.setP0 HS1.out.st 5 (.int .i64 ((s.count : Int) + 1)))
    clear HS1
    go_wp2
    exact bodyPost_ret (v := .int .i64 (s.count : Int)) (by simp [results, Tryd.results42, go_sem]) rfl ⟨rfl, by rw [HL.out]; exact ⟨_, _, _, HP6.out⟩, HB6.out⟩
end
end Go.Proofs.YtcgjmnhmhiddkaaDoor
/- The parser's row of what is open: one more, one less. -/
namespace Go.Proofs.YtcgjmnhmhiddkaaDoor
open Go Go.RowKit
set_option linter.unusedVariables false
set_option linter.unusedSimpArgs false

section
variable {w : World} {B pb : Nat} {A : Option Addr} {cp : Nat} {l : List Tk} {s : PS} {ov nv av : Value}
/-- One more is open. -/
theorem Pst0.setOpn {w' : World} {v : Value} {p : Int} (h : Pst0 w B pb A cp l s ov nv av) (h1 : OwnI w' B v (s.opn ++ [p])) (h2 : w.grownBy w' ov.ownBlock) (h3 : v.ownBlock = ov.ownBlock ∨ ∃ g', v.ownBlock = some g' ∧ w.heap.size ≤ g') (hl : s.opn.length < 16777216) :
    Blk w' pb #[.slice A l.length cp, .int .i64 (s.read : Int), ov, nv, av, .int .i64 (s.count : Int)] 65 ∧ Pst0 (w'.setCell ⟨pb, 2, none⟩ v) B pb A cp l { s with opn := s.opn ++ [p] } v nv av := by
  have hn : ∀ k, ov.ownBlock = some k → B ≤ k := fun k hk => (World.ownsRow.lt h.opn k hk).1
  have hp : ov.ownBlock ≠ some pb := fun e => own_typed h.opn h.blk (by decide) pb e rfl
  have hB : Below B w w' := (Below.refl B w).grown h2 (Nat.le_of_lt (Nat.lt_of_le_of_lt h.base h.blk.lt)) hn
  have na : av.ownBlock = none ∨ av.ownBlock ≠ ov.ownBlock := by
    cases hh : av.ownBlock with
    | none => left; rfl
    | some g => right; exact fun e => h.apart g e.symm hh
  have nn : nv.ownBlock = none ∨ nv.ownBlock ≠ ov.ownBlock := by
    rcases h.nodes.2 with ⟨e, _⟩ | ⟨g, c, cur, e, _, hg, _⟩
    · left; rw [e]; rfl
    · right
      rw [e]
      exact fun ee => own_typed h.opn (show Blk w g cur 35 from hg) (by decide) g ee.symm rfl
  have b4 := h.blk.gb hp h2
  have a4 : OwnI w' B av s.ats := World.ownsRow.kept h.ats h2 na
  have n4 : OwnN w' B nv s.nodes := World.ownsRow.kept h.nodes h2 nn
  refine ⟨b4, by simpa using b4.setCell 2 v, own_set h1 (own_typed h1 b4 (by decide)) _, own_set n4 (own_typed n4 b4 (by decide)) _, own_set a4 (own_typed a4 b4 (by decide)) _, fun g hg => ?_,
    (h.row.below h.low hB).below h.low ((Below.refl B w').setCell (p := ⟨pb, 2, none⟩) h.base _), h.low, h.base, h.long, h.rd, h.ct, by simp; omega⟩
  rcases h3 with h3 | ⟨g', h3, hg'⟩
  · rw [h3] at hg; exact h.apart g hg
  · rw [h3] at hg
    intro e
    have := (World.ownsRow.lt h.ats g e).2
    cases hg; omega
/-- One less is open. -/
theorem Pst0.dropOpn (h : Pst0 w B pb A cp l s ov nv av) (hl : 0 < s.opn.length) : ∃ g c, ov = .slice (some ⟨g, 0, none⟩) s.opn.length c ∧ s.opn.length ≤ c ∧ Pst0 (w.setCell ⟨pb, 2, none⟩ (.slice (some ⟨g, 0, none⟩) (s.opn.length - 1) c)) B pb A cp l { s with opn := s.opn.dropLast } (.slice (some ⟨g, 0, none⟩) (s.opn.length - 1) c) nv av := by
  obtain ⟨g, c, hv, hc, hg, ho⟩ := h.opn.drop hl
  refine ⟨g, c, hv, hc, by simpa using h.blk.setCell 2 (.slice (some ⟨g, 0, none⟩) (s.opn.length - 1) c), own_set ho (own_typed ho h.blk (by decide)) _, own_set h.nodes (own_typed h.nodes h.blk (by decide)) _, own_set h.ats (own_typed h.ats h.blk (by decide)) _, fun k hk => h.apart k (by rw [hv]; exact hk),
    h.row.below h.low ((Below.refl B w).setCell (p := ⟨pb, 2, none⟩) h.base _), h.low, h.base, h.long, h.rd, h.ct, by have := h.op; simp; omega⟩
end
end Go.Proofs.YtcgjmnhmhiddkaaDoor
/- Descriptions out of tokens: how many nodes are counted; how many are kept. -/
namespace Go.Proofs.YtcgjmnhmhiddkaaDoor
open Go
set_option linter.unusedVariables false
set_option linter.unusedSimpArgs false

def moreM : Md → Nat
  | .orL _ => 0 | .rowL _ => 0 | .postL _ => 0 | .inside => 0 | _ => 1
def lessM : Md → Nat
  | .inside => 1 | _ => 0
theorem run_count {l : List Tk} : ∀ (n : Nat) (m : Md) (s : PS) (k : Int) (t : PS), run l n m s = .ok k t → t.count + moreM m + 2 * s.read ≤ s.count + 2 * t.read + lessM m
  | 0, _, _, _, _, h => by cases h
  | n + 1, m, s, k, t, h => by
    cases m with
    | or =>
      obtain ⟨a, u, h1, h2⟩ := bind_ok h
      have q1 := run_count n _ _ _ _ h1
      have q2 := run_count n _ _ _ _ h2
      simp only [moreM, lessM] at *; omega
    | orL a =>
      simp only [run] at h
      split at h
      · obtain ⟨b, u, h1, h2⟩ := bind_ok h
        have q1 := run_count n _ _ _ _ h1
        have q2 := run_count n _ _ _ _ h2
        have q3 := lay_read u { kind := 5, a := a, b := b } (-1)
        simp only [moreM, lessM, PS.next] at *; omega
      · cases h; simp only [moreM, lessM]; omega
    | row =>
      obtain ⟨a, u, h1, h2⟩ := bind_ok h
      have q1 := run_count n _ _ _ _ h1
      have q2 := run_count n _ _ _ _ h2
      simp only [moreM, lessM] at *; omega
    | rowL a =>
      simp only [run] at h
      split at h
      · obtain ⟨b, u, h1, h2⟩ := bind_ok h
        have q1 := run_count n _ _ _ _ h1
        have q2 := run_count n _ _ _ _ h2
        have q3 := lay_read u { kind := 4, a := a, b := b } (-1)
        simp only [moreM, lessM] at *; omega
      · cases h; simp only [moreM, lessM]; omega
    | post =>
      obtain ⟨a, u, h1, h2⟩ := bind_ok h
      have q1 := run_count n _ _ _ _ h1
      have q2 := run_count n _ _ _ _ h2
      simp only [moreM, lessM] at *; omega
    | postL a =>
      simp only [run] at h
      split at h
      · have q2 := run_count n _ _ _ _ h
        have q3 := lay_read s { kind := 6, a := a } (tkAt l s.read).at_
        simp only [moreM, lessM, PS.next] at *; omega
      · split at h
        · have q2 := run_count n _ _ _ _ h
          have q3 := lay_read s { kind := 7, a := a, lo := (tkAt l s.read).lo, hi := (tkAt l s.read).hi } (tkAt l s.read).at_
          simp only [moreM, lessM, PS.next] at *; omega
        · cases h; simp only [moreM, lessM]; omega
    | atom =>
      simp only [run] at h
      split at h
      · cases h
        have q3 := lay_read s.next { kind := 2, cls := (tkAt l s.read).cls } (-1)
        simp only [moreM, lessM, PS.next] at *; omega
      · split at h
        · cases h
          have q3 := lay_read s.next { kind := 3, text := (tkAt l s.read).text } (-1)
          simp only [moreM, lessM, PS.next] at *; omega
        · split at h
          · have q := run_count n _ _ _ _ h
            simp only [moreM, lessM] at *; omega
          · split at h
            · obtain ⟨b, u, h1, h2⟩ := bind_ok h
              cases h2
              have q1 := run_count n _ _ _ _ h1
              have q3 := lay_read u { kind := 8, a := b } (-1)
              simp only [moreM, lessM, PS.next] at *; omega
            · split at h
              · obtain ⟨b, u, h1, h2⟩ := bind_ok h
                cases h2
                have q1 := run_count n _ _ _ _ h1
                have q3 := lay_read u { kind := 9, a := b } (-1)
                simp only [moreM, lessM, PS.next] at *; omega
              · exact absurd h fault_not_ok
    | group =>
      simp only [run] at h
      split at h
      · split at h
        · cases h
        · obtain ⟨b, u, h1, h2⟩ := bind_ok h
          split at h2
          · cases h2
            have q1 := run_count n _ _ _ _ h1
            simp only [moreM, lessM, PS.next] at *; omega
          · exact absurd h2 fault_not_ok
      · exact absurd h fault_not_ok
    | inside =>
      simp only [run] at h
      split at h
      · cases h
        have q3 := lay_read s { kind := 1 } (-1)
        simp only [moreM, lessM] at *; omega
      · have q := run_count n _ _ _ _ h
        simp only [moreM, lessM] at *; omega
/-- As many places as nodes are kept, and no more than are counted. -/
def Kept (s : PS) : Prop := s.nodes.length = s.ats.length ∧ s.nodes.length ≤ s.count
theorem Kept.lay {s : PS} (h : Kept s) (n : Nd) (p : Int) : Kept (s.lay n p) := by
  unfold Kept at *
  unfold PS.lay
  split
  · simp only [List.length_append, List.length_cons, List.length_nil]; omega
  · simp only; omega
theorem Kept.next {s : PS} (h : Kept s) : Kept s.next := h
theorem run_kept {l : List Tk} : ∀ (n : Nat) (m : Md) (s : PS) (k : Int) (t : PS), run l n m s = .ok k t → Kept s → Kept t
  | 0, _, _, _, _, h, _ => by cases h
  | n + 1, m, s, k, t, h, hk => by
    have two : ∀ {m1 m2 : Md} {s1 u : PS} {a b : Int}, run l n m1 s1 = .ok a u → run l n m2 u = .ok b t → Kept s1 → Kept t := fun h1 h2 k1 => run_kept n _ _ _ _ h2 (run_kept n _ _ _ _ h1 k1)
    have twoL : ∀ {m1 m2 : Md} {s1 u : PS} {a b : Int} (x : Nd) (p : Int), run l n m1 s1 = .ok a u → run l n m2 (u.lay x p) = .ok b t → Kept s1 → Kept t := fun x p h1 h2 k1 => run_kept n _ _ _ _ h2 ((run_kept n _ _ _ _ h1 k1).lay x p)
    cases m with
    | or => obtain ⟨a, u, h1, h2⟩ := bind_ok h; exact two h1 h2 hk
    | orL a =>
      simp only [run] at h
      split at h
      · obtain ⟨b, u, h1, h2⟩ := bind_ok h; exact twoL _ _ h1 h2 hk.next
      · cases h; exact hk
    | row => obtain ⟨a, u, h1, h2⟩ := bind_ok h; exact two h1 h2 hk
    | rowL a =>
      simp only [run] at h
      split at h
      · obtain ⟨b, u, h1, h2⟩ := bind_ok h; exact twoL _ _ h1 h2 hk
      · cases h; exact hk
    | post => obtain ⟨a, u, h1, h2⟩ := bind_ok h; exact two h1 h2 hk
    | postL a =>
      simp only [run] at h
      split at h
      · exact run_kept n _ _ _ _ h (hk.lay _ _).next
      · split at h
        · exact run_kept n _ _ _ _ h (hk.lay _ _).next
        · cases h; exact hk
    | atom =>
      simp only [run] at h
      split at h
      · cases h; exact hk.next.lay _ _
      · split at h
        · cases h; exact hk.next.lay _ _
        · split at h
          · exact run_kept n _ _ _ _ h hk
          · split at h
            · obtain ⟨b, u, h1, h2⟩ := bind_ok h; cases h2; exact (run_kept n _ _ _ _ h1 hk.next).lay _ _
            · split at h
              · obtain ⟨b, u, h1, h2⟩ := bind_ok h; cases h2; exact (run_kept n _ _ _ _ h1 hk.next).lay _ _
              · exact absurd h fault_not_ok
    | group =>
      simp only [run] at h
      split at h
      · split at h
        · cases h
        · obtain ⟨b, u, h1, h2⟩ := bind_ok h
          split at h2
          · cases h2
            have q : Kept u := run_kept n _ _ _ _ h1 hk
            exact q
          · exact absurd h2 fault_not_ok
      · exact absurd h fault_not_ok
    | inside =>
      simp only [run] at h
      split at h
      · cases h; exact hk.lay _ _
      · exact run_kept n _ _ _ _ h hk
end Go.Proofs.YtcgjmnhmhiddkaaDoor
/- The parser's contracts: what each call keeps. -/
namespace Go.Proofs.YtcgjmnhmhiddkaaDoor
open Go Go.RowKit
set_option linter.unusedVariables false
set_option linter.unusedSimpArgs false

theorem field_tok0 (k a lo hi : Int) (c0 c1 c2 c3 : Int) (b : ByteArray) (w : World) : (Instr.field 61 (.agg #[.int .i64 k, .int .i64 a, .int .u64 c0, .int .u64 c1, .int .u64 c2, .int .u64 c3, .string b, .int .i64 lo, .int .i64 hi]) 0).run Tryd.prog w = .ok (.int .i64 k) w := by kernel_rfl
theorem field_tok1 (k a lo hi : Int) (c0 c1 c2 c3 : Int) (b : ByteArray) (w : World) : (Instr.field 61 (.agg #[.int .i64 k, .int .i64 a, .int .u64 c0, .int .u64 c1, .int .u64 c2, .int .u64 c3, .string b, .int .i64 lo, .int .i64 hi]) 1).run Tryd.prog w = .ok (.int .i64 a) w := by kernel_rfl
def KeptO (s : PS) : Prop := Kept s ∧ s.opn.length ≤ 64
def Inv (s : PS) : Prop := s.count ≤ 2 * s.read ∧ KeptO s
theorem Inv.next {s : PS} (h : Inv s) : Inv s.next := ⟨by have := h.1; simp only [PS.next]; omega, h.2⟩
theorem run_inv {l : List Tk} {n : Nat} {m : Md} {s t : PS} {k : Int} (h : run l n m s = .ok k t) (hi : Inv s) : t.count + moreM m ≤ 2 * t.read + lessM m ∧ KeptO t := by
  have q := run_count n m s k t h
  have := hi.1
  exact ⟨by omega, run_kept n m s k t h hi.2.1, by rw [(run_read n m s k t h).2.1]; exact hi.2.2⟩
theorem Inv.lay1 {s : PS} (h : s.count + 1 ≤ 2 * s.read) (hk : KeptO s) (n : Nd) (p : Int) : Inv (s.lay n p) := by
  have q := lay_read s n p
  exact ⟨by omega, hk.1.lay n p, by rw [q.2.1]; exact hk.2⟩
theorem Inv.lay2 {s : PS} (h : Inv s) (n : Nd) (p : Int) : Inv (s.lay n p).next := by
  have q := lay_read s n p
  have := h.1
  exact ⟨by simp only [PS.next]; omega, h.2.1.lay n p, by simp only [PS.next]; rw [q.2.1]; exact h.2.2⟩
/-- What a function of the parser promises of a state. -/
def CallM (f : FuncId) (l : List Tk) (s : PS) (r : PR) : Prop := ∀ w B pb A cp, Pst w B pb A cp l s → Calls Tryd.prog f #[.pointer (some ⟨pb, 0, none⟩)] w (RunPost B pb A cp l w r)
/-- Which function reads what. -/
def fnM : Md → Option FuncId
  | .or => some 27
  | .row => some 40
  | .post => some 58
  | .atom => some 69
  | .group => some 77
  | .inside => some 82
  | _ => none
def RunC (l : List Tk) (n : Nat) : Prop := ∀ (m : Md) (f : FuncId) (s : PS), fnM m = some f → Inv s → run l n m s ≠ .out → CallM f l s (run l n m s)
section
variable {w : World} {B pb : Nat} {A : Option Addr} {cp : Nat} {l : List Tk} {s : PS} {ov nv av : Value}
theorem Pst.lay (hP : Pst w B pb A cp l s) (hc : s.count ≤ 2 * s.read + 2) (hk : KeptO s) (n : Nd) (p : Int) :
    Calls Tryd.prog 42 #[.pointer (some ⟨pb, 0, none⟩), .agg (ndC n), .int .i64 p] w (RunPost B pb A cp l w (layK s n p)) := by
  obtain ⟨ov, nv, av, h⟩ := hP
  have hr := h.rd
  have h1 := hk.1.1
  have h2 := hk.1.2
  exact lay_any h n p (by omega) (by omega) (by omega)
theorem Pst.later {w' : World} (h : Pst w B pb A cp l s) (hb : Below w.heap.size w w') : Pst w' B pb A cp l s := by
  obtain ⟨ov, nv, av, h⟩ := h
  exact ⟨ov, nv, av, h.later hb⟩
theorem Pst.token (h : Pst w B pb A cp l s) : Calls Tryd.prog 41 #[.pointer (some ⟨pb, 0, none⟩)] w (Ans w (.agg (tkC (tkAt l s.read)))) := by
  obtain ⟨ov, nv, av, h⟩ := h
  exact h.token
theorem Pst.rd (h : Pst w B pb A cp l s) : s.read ≤ 16777216 := by obtain ⟨ov, nv, av, h⟩ := h; exact h.rd
theorem Pst.long (h : Pst w B pb A cp l s) : l.length ≤ 16777216 := by obtain ⟨ov, nv, av, h⟩ := h; exact h.long
theorem Pst.base (h : Pst w B pb A cp l s) : B ≤ pb ∧ pb < w.heap.size := by obtain ⟨ov, nv, av, h⟩ := h; exact ⟨h.base, h.blk.lt⟩
theorem Pst.heap (h : Pst w B pb A cp l s) : B ≤ w.heap.size := by have := h.base; omega
theorem Pst.next (h : Pst w B pb A cp l s) (hr : s.read < 16777216) : Pst (w.setCell ⟨pb, 1, none⟩ (.int .i64 ((s.read : Int) + 1))) B pb A cp l s.next := by
  obtain ⟨ov, nv, av, h⟩ := h
  exact ⟨ov, nv, av, h.next hr⟩
/-- How many tokens are read, as the memory has it. -/
theorem Pst.cell1 (h : Pst w B pb A cp l s) : w.cell? ⟨pb, 1, none⟩ = some (.int .i64 (s.read : Int)) := by
  obtain ⟨ov, nv, av, h⟩ := h
  have := h.blk.cell 1
  simpa using this
theorem Pst.frozen (h : Pst w B pb A cp l s) (o : Nat) : w.frozen? ⟨pb, o, none⟩ = false := by
  obtain ⟨ov, nv, av, h⟩ := h
  exact h.blk.frozen o
end
def rdOf (w : World) (pb : Nat) : Nat := match w.cell? ⟨pb, 1, none⟩ with
  | some v => (intOf v).toNat
  | none => 0
theorem Pst.rdOf {w : World} {B pb : Nat} {A : Option Addr} {cp : Nat} {l : List Tk} {s : PS} (h : Pst w B pb A cp l s) : rdOf w pb = s.read := by
  unfold Go.Proofs.YtcgjmnhmhiddkaaDoor.rdOf
  rw [h.cell1]
  simp [intOf]
end Go.Proofs.YtcgjmnhmhiddkaaDoor
