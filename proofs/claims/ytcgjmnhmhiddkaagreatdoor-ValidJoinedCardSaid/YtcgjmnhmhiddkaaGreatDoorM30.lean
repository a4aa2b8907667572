/- An append of a node to a row of its own: where it stands, and the row that was there. -/
import Derived.Test.YtcgjmnhmhiddkaaGreatDoorM16
import Derived.Test.YtcgjmnhmhiddkaaGreatDoorM12
import Derived.Test.YtcgjmnhmhiddkaaGreatDoorM29
import Derived.Laws.MakeOwn
namespace Go.Proofs.YtcgjmnhmhiddkaaGreatDoor
open Go Go.RowKit
set_option linter.unusedVariables false

theorem nd_one (t : Nd) : ∀ u ∈ flat10 [t], u.oneCell' = true := flat10_ones [t]
theorem nd_news {w : World} {b : Nat} {t : Nd} (hnew : Blk w b (ndC t) 44) : ∀ (j : Nat) (u : Value), (flat10 [t])[j]? = some u → w.cell? ((⟨b, 0, none⟩ : Addr).add j) = some u := by
  intro j u hu
  have hadd : (⟨b, 0, none⟩ : Addr).add j = ⟨b, j, none⟩ := by unfold Addr.add; split <;> simp_all
  have hf1 : flat10 [t] = (ndC t).toList := by simp [flat10]
  rw [hf1] at hu
  rw [hadd, hnew.cell, ← hu]; simp
set_option maxRecDepth 100000 in
theorem wp_append_nd2 {w : World} {o : Oper} {a : Act} {K : Act → World → Prop} {Q : Exit → Act → World → Prop} (s x : Operand)
    (ho : o.op = .call { callee := .builtin .append, args := #[s, x], argTypes := #[23, 23] })
    (base : Nat) (v : Value) (l : List Nd) (hs : a.eval s = v) (hown : OwnN w base v l)
    (b : Nat) (t : Nd) (hx : a.eval x = .slice (some ⟨b, 0, none⟩) 1 1) (hnew : Blk w b (ndC t) 44) (hlen : l.length < 1073741824) (hbase : base ≤ w.heap.size)
    (h : ∀ v' w', OwnN w' base v' (l ++ [t]) → w.grownBy w' v.ownBlock → (v'.ownBlock = v.ownBlock ∨ ∃ g', v'.ownBlock = some g' ∧ w.heap.size ≤ g') → OwnN w' base v l → (∀ u, OwnN w base u (l ++ [t]) → OwnN w' base u (l ++ [t])) → K (a.put o.dst v') w') : o.wp Tryz.prog a w K Q := by
  obtain ⟨ib, hib, hz0, hz1, hz2⟩ := info_parts infoNd
  have hnews := nd_news hnew
  have hone := nd_one t
  obtain ⟨v', w', hr, h2, h3, _⟩ := run_append_own (P := Tryz.prog) w base 23 o.type 44 ib _ 10 88 Tryz.underlying23 hib hz0 hz1 hz2 rfl (by decide) v l.length (flat10 l) hown ⟨b, 0, none⟩ 1 1 (flat10 [t]) rfl hnews hone (by unfold maxLen; omega) (by omega) hbase
  have h2' : OwnN w' base v' (l ++ [t]) := by unfold OwnN; rw [List.length_append, flat10_append]; exact h2
  have place : (v'.ownBlock = v.ownBlock ∨ ∃ g', v'.ownBlock = some g' ∧ w.heap.size ≤ g') ∧ OwnN w' base v l ∧ (∀ u, OwnN w base u (l ++ [t]) → OwnN w' base u (l ++ [t])) := by
    rcases hown.2 with ⟨rfl, hn⟩ | ⟨g', cap, cur, rfl, hbg, hgg, hnc, hcm, hcs, htake⟩
    · have hl0 : l = [] := List.length_eq_zero_iff.1 hn
      subst hl0
      obtain ⟨v2, w2, hr2, h4, _, _⟩ := run_append_own (P := Tryz.prog) w w.heap.size 23 o.type 44 ib _ 10 88 Tryz.underlying23 hib hz0 hz1 hz2 rfl (by decide) (.slice none 0 0) 0 [] ⟨rfl, .inl ⟨rfl, rfl⟩⟩ ⟨b, 0, none⟩ 1 1 (flat10 [t]) rfl hnews hone (by unfold maxLen; omega) (by omega) (Nat.le_refl _)
      rw [hr] at hr2
      simp only [Result.ok.injEq] at hr2
      obtain ⟨rfl, rfl⟩ := hr2
      refine ⟨?_, OwnN.nil _ _, fun u hu => World.ownsRow.kept hu h3 (by cases hh : u.ownBlock <;> simp [Value.ownBlock])⟩
      rcases h4.2 with ⟨_, h5⟩ | ⟨g2, cap2, cur2, hv, hb2, _⟩
      · omega
      · exact .inr ⟨g2, by rw [hv]; rfl, hb2⟩
    · by_cases hroom : l.length + 1 ≤ cap
      · have hr2 := run_append_room (P := Tryz.prog) w 23 o.type 44 ib Tryz.underlying23 hib g' l.length cap cur hgg ⟨b, 0, none⟩ 1 1 (flat10 [t]) (by rw [hz1]; rfl) hnews hone hroom (by rw [hz1, hcs]; simp [flat10_length]; omega)
        rw [hr] at hr2
        simp only [Result.ok.injEq] at hr2
        refine ⟨.inl (by rw [hr2.1]; rfl), ?_⟩
        have hv := hr2.1
        have hown2 := h2'
        obtain ⟨q0, ⟨q1, _⟩ | ⟨g2, cap2, cur2, q1, q2, q3, q4, q5, q6, q7⟩⟩ := h2'
        · rw [hv] at q1; cases q1
        · rw [hv] at q1
          simp only [Value.slice.injEq, Option.some.injEq, Addr.mk.injEq, and_true] at q1
          obtain ⟨rfl, q8, rfl⟩ := q1
          refine ⟨⟨by rw [flat10_length], .inr ⟨g', cap, cur2, rfl, hbg, q3, hnc, hcm, q6, ?_⟩⟩, fun u hu => ?_⟩
          case refine_2 =>
            by_cases hgu : u.ownBlock = some g'
            · obtain ⟨u0, ⟨u1, _⟩ | ⟨g3, cap3, cur3, u1, u2, u3, u4, u5, u6, u7⟩⟩ := hu
              · rw [u1] at hgu; cases hgu
              · rw [u1] at hgu
                have e3 : g3 = g' := by simpa [Value.ownBlock] using hgu
                subst e3
                have e4 := u3.symm.trans hgg
                simp only [Option.some.injEq, Obj.cells.injEq, and_true] at e4
                have e5 : cap3 = cap := by rw [e4] at u6; omega
                rw [u1, e5, ← q8, ← hv]; exact hown2
            · exact World.ownsRow.kept hu h3 (by right; exact hgu)
          have e : cur2.toList.take (l.length * 10) = (cur2.toList.take ((l ++ [t]).length * 10)).take (l.length * 10) := by rw [List.take_take]; congr 1; simp
          rw [e, q7, flat10_append]
          rw [List.take_append_of_le_length (by rw [flat10_length]; omega), ← flat10_length, List.take_length]
      · have holds := World.ownsRow.cells (w := w) (base := base) (e := 44) (size := 10) (v := .slice (some ⟨g', 0, none⟩) l.length cap) (n := l.length) (xs := flat10 l) hown (g := g') rfl
        have hr2 := run_append_grow (P := Tryz.prog) w 23 o.type 44 ib _ Tryz.underlying23 hib hz0 ⟨g', 0, none⟩ l.length cap (flat10 l) (by rw [hz1]; exact flat10_length l) holds ⟨b, 0, none⟩ 1 1 (flat10 [t]) (by rw [hz1]; rfl) hnews (by omega) (by omega) (by rw [hz2]; exact growslice_fits (by omega) (by omega))
        rw [hr] at hr2
        simp only [Result.ok.injEq] at hr2
        refine ⟨.inr ⟨w.heap.size, by rw [hr2.1]; rfl, Nat.le_refl _⟩, ?_⟩
        have hb : Below w.heap.size w w' := by rw [hr2.2]; exact ((Below.refl _ w).drew).alloc (Nat.le_refl _) _
        exact ⟨hown.later hb, fun u hu => hu.later hb⟩
  unfold Oper.wp execOp
  simp only [ho, resolve, invoke, builtin, Sem.run_bind, Sem.run_pure, Result.andThen_ok, List.map_toArray, List.map_cons, List.map_nil, hs, hx, hr]
  exact h v' w' h2' h3 place.1 place.2.1 place.2.2
end Go.Proofs.YtcgjmnhmhiddkaaGreatDoor
/- Leaf, Wrap, Pair: walked. -/
namespace Go.Proofs.YtcgjmnhmhiddkaaGreatDoor
open Go Go.RowKit
set_option linter.unusedVariables false
set_option linter.unusedSimpArgs false

theorem NRow.ofBlk {w : World} {b : Nat} {n : Nd} (h : Blk w b (ndC n) 44) : NRow w (some ⟨b, 0, none⟩) [n] := fun i hi => by
  obtain rfl : i = 0 := by simpa using hi
  refine ⟨b, 0, rfl, h.lt, fun j hj => ?_⟩
  rw [Nat.zero_mul, Nat.zero_add, h.cell]; rfl
set_option maxHeartbeats 8000000 in
set_option maxRecDepth 100000 in
theorem leaf_any (n : Nd) (hm : MvOk 0 n) (w : World) : Calls Tryz.prog 182 #[.agg (ndC n)] w (DPost w [n]) := by
  have HMV : Hid (mvN 0 n = n) := mvN_zero n
  have HM := Lib.hid hm
  have hb := ((Below.refl w.heap.size w).alloc (Nat.le_refl _) (.cells (ndC n) 44)).alloc (by simp) (.cells #[.slice none 0 0] 25)
  have HB := Lib.hid hb
  have HN : Hid (Blk ((w.alloc (.cells (ndC n) 44)).alloc (.cells #[.slice none 0 0] 25)) w.heap.size (ndC n) 44) := (Blk.new w _ _).alloc _
  have HR : Hid (Blk ((w.alloc (.cells (ndC n) 44)).alloc (.cells #[.slice none 0 0] 25)) (w.heap.size + 1) #[.slice none 0 0] 25) := by
    unfold Hid
    have := Blk.new (w.alloc (.cells (ndC n) 44)) #[.slice none 0 0] 25
    simpa using this
  clear hm hb
  unfold ndC at HB HN HR ⊢
  go_enter Tryz.func182, Tryz.ntmps182
  go_upto_region 1 with (fail)
  generalize (w.alloc (.cells #[.int .i64 n.kind, .int .i64 n.a, .int .i64 n.b, .int .i64 n.lo, .int .i64 n.hi, .int .u64 (wd n.cls 0), .int .u64 (wd n.cls 1), .int .u64 (wd n.cls 2), .int .u64 (wd n.cls 3), .string (bs n.text)] 44)).alloc (.cells #[.slice none 0 0] 25) = w1 at *
  obtain ⟨g0, g1, g2, g3, g4, g5, g6, g7, g8, g9⟩ := ten_cells HN.out
  have HB2 := Lib.hid ((Below.refl w1.heap.size w1).alloc (Nat.le_refl _) (.cells (ndC n) 44))
  have HN2 := Lib.hid (NRow.ofBlk (Blk.new w1 (ndC n) 44))
  have hlow : w.heap.size + 1 < w1.heap.size := HR.out.lt
  have LC : Hid (Calls Tryz.prog 185 #[.slice none 0 0, .slice (some ⟨w1.heap.size, 0, none⟩) 1 1, .int .i64 0] (w1.alloc (.cells (ndC n) 44)) (LaidPost (w1.alloc (.cells (ndC n) 44)) (w1.alloc (.cells (ndC n) 44)).heap.size [n])) := by
    have h := laid_any [] [n] 0 (.slice none 0 0) (some ⟨w1.heap.size, 0, none⟩) 1 (w1.alloc (.cells (ndC n) 44)).heap.size _ (OwnN.nil _ _) HN2.out (fun b o e => by cases e; simp) (Nat.le_refl _) (by simp) (fun x hx => by simp at hx; subst hx; exact HM.out)
    unfold Hid
    rw [List.nil_append, List.map_cons, List.map_nil, HMV.out] at h
    exact h
  unfold ndC at HB2 HN2 LC
  go_wp2_with fail
  refine LC.out.mono ?_; intro e w4 hp; obtain ⟨s, rfl, ho, hb4⟩ := hp
  obtain ⟨A2, c2, rfl, -⟩ := ho.row
  have HO := Lib.hid ho
  have hb5 := hb4.trans ((Below.refl _ _))
  have HR4 := Lib.hid ((HR.out.later HB2.out).later hb4)
  have HB4 := Lib.hid ((HB.out.trans (HB2.out.mono HB.out.size)).trans (hb4.mono (by simp; omega)))
  clear hb4 hb5 ho LC g0 g1 g2 g3 g4 g5 g6 g7 g8 g9
  have r0 := HR4.out.cell 0
  simp at r0
  have rf := HR4.out.frozen
  have s0 := HR4.out.put10 (o := 0) (by simp)
  go_wp2
  exact bodyPost_ret (v := .agg #[.slice A2 1 c2]) (by simp [results, Tryz.results182, go_sem, s0]) rfl ⟨_, rfl, (HO.out.setCell_ne (a := ⟨w.heap.size + 1, 0, none⟩) (by simp; omega) _).weaken (by simp; omega), HB4.out.setCell (p := ⟨w.heap.size + 1, 0, none⟩) (Nat.le_succ _) _⟩
theorem Blk.grow {w w' : World} {b g : Nat} {vs : Array Value} {t : TypeId} (h : Blk w b vs t) (hne : b ≠ g) (hg : w.grownBy w' (some g)) : Blk w' b vs t := (hg.block b h.lt (fun e => hne (Option.some.inj e))).trans h
end Go.Proofs.YtcgjmnhmhiddkaaGreatDoor
/- The parser's lay: walked. -/
namespace Go.Proofs.YtcgjmnhmhiddkaaGreatDoor
open Go Go.RowKit
set_option linter.unusedVariables false
set_option linter.unusedSimpArgs false

theorem wrap_of {x : Int} (h : x ≤ 1073741824) (h0 : 0 ≤ x) : wrap64 x = x := by unfold wrap64; omega
/-- What an append to the nodes does. -/
def LyR (B : Nat) (nv : Value) (nodes : List Nd) (n : Nd) (w w' : World) : Prop := w.grownBy w' nv.ownBlock ∧ (OwnN w B nv nodes → OwnN w' B nv nodes) ∧ (∀ u, OwnN w B u (nodes ++ [n]) → OwnN w' B u (nodes ++ [n]))
theorem LyR.of {B : Nat} {nv : Value} {nodes : List Nd} {n : Nd} (w w' : World) (hb : Below w.heap.size w w') : LyR B nv nodes n w w' := ⟨gb_of hb, fun h => h.later hb, fun u h => h.later hb⟩
theorem Blk.gb {w w' : World} {b : Nat} {vs : Array Value} {t : TypeId} {ro : Option Nat} (h : Blk w b vs t) (hne : ro ≠ some b) (hg : w.grownBy w' ro) : Blk w' b vs t := (hg.block b h.lt (fun e => hne e.symm)).trans h
section
variable {w : World} {B pb : Nat} {A : Option Addr} {cp : Nat} {l : List Tk} {s : PS} {ov nv av : Value}
theorem Pst0.fresh (h : Pst0 w B pb A cp l s ov nv av) : nv.ownBlock ≠ some w.heap.size := fun e => Nat.lt_irrefl _ (World.ownsRow.lt h.nodes _ e).2
theorem Pst0.grow {w' : World} {n : Nd} (h : Pst0 w B pb A cp l s ov nv av) (hr : LyR B nv s.nodes n w w') : Pst0 w' B pb A cp l s ov nv av := by
  have hn : ∀ k, nv.ownBlock = some k → B ≤ k := fun k hk => (World.ownsRow.lt h.nodes k hk).1
  have hp : nv.ownBlock ≠ some pb := fun e => own_typed h.nodes h.blk (by decide) pb e rfl
  have hB : Below B w w' := (Below.refl B w).grown hr.1 (Nat.le_of_lt (Nat.lt_of_le_of_lt h.base h.blk.lt)) hn
  have ne : ∀ {v : Value} {xs : List Int}, OwnI w B v xs → v.ownBlock = none ∨ v.ownBlock ≠ nv.ownBlock := fun {v xs} hv => by
    rcases hv.2 with ⟨e, _⟩ | ⟨g, c, cur, e, _, hg, _⟩
    · left; rw [e]; rfl
    · right
      rw [e]
      exact fun ee => own_typed h.nodes (show Blk w g cur 3 from hg) (by decide) g ee.symm rfl
  exact ⟨h.blk.gb hp hr.1, World.ownsRow.kept h.opn hr.1 (ne h.opn), hr.2.1 h.nodes, World.ownsRow.kept h.ats hr.1 (ne h.ats), h.apart, h.row.below h.low hB, h.low, h.base, h.long, h.rd, h.ct, h.op⟩
/-- What lay holds while it runs. -/
structure LyS (w0 : World) (B pb : Nat) (A : Option Addr) (cp : Nat) (l : List Tk) (s : PS) (ov nv av : Value) (bx : Nat) (n : Nd) (w : World) : Prop where
  bel : Fr B w0 w
  st : Pst0 w B pb A cp l s ov nv av
  box : Blk w bx (ndC n) 44
  ne : nv.ownBlock ≠ some bx
/-- The nodes' row is put where it belongs. -/
theorem Pst0.setNodes (h : Pst0 w B pb A cp l s ov nv av) {v : Value} {m : List Nd} (hv : OwnN w B v m) : Pst0 (w.setCell ⟨pb, 3, none⟩ v) B pb A cp l { s with nodes := m } ov v av := by
  have hb := h.blk.setCell 3 v
  exact ⟨by simpa using hb, own_set h.opn (own_typed h.opn h.blk (by decide)) _, own_set hv (own_typed hv h.blk (by decide)) _, own_set h.ats (own_typed h.ats h.blk (by decide)) _, h.apart,
    h.row.below h.low ((Below.refl B w).setCell (p := ⟨pb, 3, none⟩) h.base _), h.low, h.base, h.long, h.rd, h.ct, h.op⟩
/-- A place more, put where it belongs. -/
theorem Pst0.setAts {w' : World} {v : Value} {p : Int} (h : Pst0 w B pb A cp l s ov nv av) (h1 : OwnI w' B v (s.ats ++ [p])) (h2 : w.grownBy w' av.ownBlock) (h3 : v.ownBlock = av.ownBlock ∨ ∃ g', v.ownBlock = some g' ∧ w.heap.size ≤ g') :
    Blk w' pb #[.slice A l.length cp, .int .i64 (s.read : Int), ov, nv, av, .int .i64 (s.count : Int)] 151 ∧ Pst0 (w'.setCell ⟨pb, 4, none⟩ v) B pb A cp l { s with ats := s.ats ++ [p] } ov nv v := by
  have hn : ∀ k, av.ownBlock = some k → B ≤ k := fun k hk => (World.ownsRow.lt h.ats k hk).1
  have hp : av.ownBlock ≠ some pb := fun e => own_typed h.ats h.blk (by decide) pb e rfl
  have hB : Below B w w' := (Below.refl B w).grown h2 (Nat.le_of_lt (Nat.lt_of_le_of_lt h.base h.blk.lt)) hn
  have no : ov.ownBlock = none ∨ ov.ownBlock ≠ av.ownBlock := by
    cases hh : ov.ownBlock with
    | none => left; rfl
    | some g => right; exact fun e => h.apart g hh e.symm
  have nn : nv.ownBlock = none ∨ nv.ownBlock ≠ av.ownBlock := by
    rcases h.nodes.2 with ⟨e, _⟩ | ⟨g, c, cur, e, _, hg, _⟩
    · left; rw [e]; rfl
    · right
      rw [e]
      exact fun ee => own_typed h.ats (show Blk w g cur 44 from hg) (by decide) g ee.symm rfl
  have b4 := h.blk.gb hp h2
  have o4 : OwnI w' B ov s.opn := World.ownsRow.kept h.opn h2 no
  have n4 : OwnN w' B nv s.nodes := World.ownsRow.kept h.nodes h2 nn
  refine ⟨b4, by simpa using b4.setCell 4 v, own_set o4 (own_typed o4 b4 (by decide)) _, own_set n4 (own_typed n4 b4 (by decide)) _, own_set h1 (own_typed h1 b4 (by decide)) _, fun g hg => ?_,
    (h.row.below h.low hB).below h.low ((Below.refl B w').setCell (p := ⟨pb, 4, none⟩) h.base _), h.low, h.base, h.long, h.rd, h.ct, h.op⟩
  rcases h3 with h3 | ⟨g', h3, hg'⟩
  · rw [h3]; exact h.apart g hg
  · rw [h3]
    have := (World.ownsRow.lt h.opn g hg).2
    intro e; cases e; omega
/-- One more is counted. -/
theorem Pst0.more (h : Pst0 w B pb A cp l s ov nv av) (hc : s.count < 1073741824) : Pst0 (w.setCell ⟨pb, 5, none⟩ (.int .i64 ((s.count : Int) + 1))) B pb A cp l { s with count := s.count + 1 } ov nv av := by
  have hb := h.blk.setCell 5 (.int .i64 ((s.count : Int) + 1))
  exact ⟨by simpa using hb, own_set h.opn (own_typed h.opn h.blk (by decide)) _, own_set h.nodes (own_typed h.nodes h.blk (by decide)) _, own_set h.ats (own_typed h.ats h.blk (by decide)) _, h.apart,
    h.row.below h.low ((Below.refl B w).setCell (p := ⟨pb, 5, none⟩) h.base _), h.low, h.base, h.long, h.rd, by simp only; omega, h.op⟩
theorem LyS.grow {w0 w' : World} {bx : Nat} {n : Nd} (h : LyS w0 B pb A cp l s ov nv av bx n w) (hr : LyR B nv s.nodes n w w') : LyS w0 B pb A cp l s ov nv av bx n w' :=
  ⟨h.bel.row h.st.nodes (Nat.le_refl _) (by decide) (Nat.le_of_lt (Nat.lt_of_le_of_lt h.st.base h.st.blk.lt)) hr.1, h.st.grow hr, h.box.gb h.ne hr.1, h.ne⟩
end
def NewY (nv : Value) (n : Nd) (v : Value) (w : World) : Prop := ∃ b, v = .slice (some ⟨b, 0, none⟩) 1 1 ∧ Blk w b (ndC n) 44 ∧ nv.ownBlock ≠ some b
theorem NewY.grow {B : Nat} {nv : Value} {nodes : List Nd} (n : Nd) (v : Value) (w w' : World) (h : NewY nv n v w) (hr : LyR B nv nodes n w w') : NewY nv n v w' := by
  obtain ⟨b, h1, h2, h3⟩ := h
  exact ⟨b, h1, h2.gb h3 hr.1, h3⟩
def AppY (B : Nat) (nodes : List Nd) (n : Nd) (v : Value) (w : World) : Prop := OwnN w B v (nodes ++ [n])
theorem AppY.grow {B : Nat} {nv : Value} (nodes : List Nd) (n : Nd) (v : Value) (w w' : World) (h : AppY B nodes n v w) (hr : LyR B nv nodes n w w') : AppY B nodes n v w' := hr.2.2 v h
section
variable {w : World} {B pb : Nat} {A : Option Addr} {cp : Nat} {l : List Tk} {s : PS} {ov nv av : Value}
set_option maxHeartbeats 8000000 in
set_option maxRecDepth 100000 in
theorem lay_any (hP : Pst0 w B pb A cp l s ov nv av) (n : Nd) (p : Int) (hc : s.count < 1073741824) (hnl : s.nodes.length < 1073741824) (hal : s.ats.length < 1073741824) :
    Calls Tryz.prog 140 #[.pointer (some ⟨pb, 0, none⟩), .agg (ndC n), .int .i64 p] w (RunPost B pb A cp l w (.ok (s.count : Int) (s.lay n p))) := by
  have hlt0 := hP.blk.lt
  have hBw : B ≤ w.heap.size := Nat.le_of_lt (Nat.lt_of_le_of_lt hP.base hlt0)
  have HS1 : Hid (LyS w B pb A cp l s ov nv av w.heap.size n (w.alloc (.cells (ndC n) 44))) :=
    ⟨Fr.of ((Below.refl _ _).alloc (Nat.le_refl _) _) hBw, hP.later ((Below.refl _ _).alloc (Nat.le_refl _) _), Blk.new w _ _, fun e => by have := (World.ownsRow.lt hP.nodes _ e).2; omega⟩
  clear hP
  unfold ndC at HS1 ⊢
  go_enter Tryz.func140, Tryz.ntmps140
  go_upto_region 1 with (fail)
  generalize w.alloc (.cells #[.int .i64 n.kind, .int .i64 n.a, .int .i64 n.b, .int .i64 n.lo, .int .i64 n.hi, .int .u64 (wd n.cls 0), .int .u64 (wd n.cls 1), .int .u64 (wd n.cls 2), .int .u64 (wd n.cls 3), .string (bs n.text)] 44) = w1 at *
  have c5 := HS1.out.st.blk.cell 5
  simp at c5
  by_cases hlt : s.count < 4096
  · have hd : decide ((s.count : Int) < 4096) = true := decide_eq_true (by omega)
    have hltz : (s.count : Int) < 4096 := by omega
    go_upto_region 2 with (fail)
    clear c5
    have hR : ∀ w w', Below w.heap.size w w' → LyR B nv s.nodes n w w' := fun w w' => LyR.of w w'
    have HR := Lib.hid hR
    clear hR
    refine G.wp_region_stable_tail (R := (LyR B nv s.nodes n)) HR.out 10 (S := (LyS w B pb A cp l s ov nv av w.heap.size n)) (hSt := fun _ _ h hr => h.grow hr) (plan := [[(0, none)], [(0, none)], [(13, some 1)], [(14, some 2)], [(15, some 3)], [(4, none)], [(17, some 5)], [(16, some 4), (18, some 6)], [(12, some 0)], [(20, some 8)]]) rfl rfl (by kernel_rfl) (by kernel_rfl) (by kernel_rfl) (by kernel_rfl) ?hS ?_
    rotate_left
    iterate 6 first
      | (refine G.chain_skip (by rfl) (by rfl) ?_)
      | (apply G.chain_want (by rfl)
         · intro act wx hS hr
           simp at hr
           have c3 := hS.st.blk.cell 3
           have cl := hS.st.blk.lt
           obtain ⟨f0, f1, f2, f3, f4, f5, f6, f7, f8, f9⟩ := ten_cells hS.box
           simp at c3
           go_simp
           (try go_ints)
           first
             | exact G.Done.same HR.out (v := .agg (ndC n))
             | exact G.Done.same HR.out
        )
    (refine G.chain_rel (NewY nv n) (NewY.grow n) (by rfl) ?_ ?_
     · intro act wx hS hr
       simp at hr
       have c3 := hS.st.blk.cell 3
       have cl := hS.st.blk.lt
       obtain ⟨f0, f1, f2, f3, f4, f5, f6, f7, f8, f9⟩ := ten_cells hS.box
       simp at c3
       unfold ndC at hr
       clear f0 f1 f2 f3 f4 f5 f6 f7 f8 f9 c3
       all_goals go_simp
       exact G.Done.rel (HR.out _ _ ((Below.refl _ _).alloc (Nat.le_refl _) _)) ⟨_, rfl, Blk.new wx (ndC n) _, hS.st.fresh⟩
    )
    (refine G.chain_rel (AppY B s.nodes n) (AppY.grow s.nodes n) (by rfl) ?_ ?_
     · intro act wx hS hr
       simp at hr
       have c3 := hS.st.blk.cell 3
       have cl := hS.st.blk.lt
       obtain ⟨f0, f1, f2, f3, f4, f5, f6, f7, f8, f9⟩ := ten_cells hS.box
       simp at c3
       obtain ⟨hr2, v, hr3, b, rfl, hk, hne⟩ := hr
       refine wp_append_nd2 (.tmp 16) (.tmp 18) rfl B nv s.nodes (by simp [Act.eval, hr2]) hS.st.nodes b n (by simp [Act.eval, hr3]) hk hnl (Nat.le_of_lt (Nat.lt_of_le_of_lt hS.st.base cl)) ?_
       intro v' w' q1 q2 q3 q4 q5
       exact G.Done.rel ⟨q2, fun _ => q4, q5⟩ q1
       all_goals go_simp
    )
    iterate 2 first
      | (refine G.chain_skip (by rfl) (by rfl) ?_)
      | (apply G.chain_want (by rfl)
         · intro act wx hS hr
           simp at hr
           have c3 := hS.st.blk.cell 3
           have cl := hS.st.blk.lt
           obtain ⟨f0, f1, f2, f3, f4, f5, f6, f7, f8, f9⟩ := ten_cells hS.box
           simp at c3
           go_simp
           (try go_ints)
           first
             | exact G.Done.same HR.out (v := .agg (ndC n))
             | exact G.Done.same HR.out
        )
    show ∀ w', _ → _
    intro wz hz
    simp [Act.put]
    case hS => exact HS1.out
    intro v6 hv6 v7 hv7
    have hv8 : OwnN wz B v7 (s.nodes ++ [n]) := hv7
    obtain ⟨a7, k7, rfl, -⟩ := hv8.row
    have HP3 := Lib.hid (hz.st.setNodes hv8)
    have HB3 := Lib.hid (hz.bel.setP0 hz.st 3 (.slice a7 (s.nodes ++ [n]).length k7))
    have c3 := hz.st.blk.cell 3
    have cf := hz.st.blk.frozen
    simp at c3
    clear hz hv6 hv7 hv8 HS1 HR
    generalize (s.nodes ++ [n]).length = nn at *
    go_upto_region 3 with (fail)
    generalize wz.setCell ⟨pb, 3, none⟩ (.slice a7 nn k7) = w2 at *
    clear c3 cf
    obtain ⟨a8, k8, hav, -⟩ := HP3.out.ats.row
    subst hav
    have c4 := HP3.out.blk.cell 4
    have cf := HP3.out.blk.frozen
    simp at c4
    have HBN := Lib.hid (Blk.new w2 #[.int .i64 p] 3)
    have HP4 := Lib.hid (HP3.out.later ((Below.refl _ _).alloc (Nat.le_refl _) (.cells #[.int .i64 p] 3)))
    have HB4 := Lib.hid (HB3.out.alloc (Nat.le_of_lt (Nat.lt_of_le_of_lt HP3.out.base HP3.out.blk.lt)) (.cells #[.int .i64 p] 3))
    go_wp2_with (at_builtin; refine wpList_append_int rfl _ _ rfl B (.slice a8 s.ats.length k8) s.ats rfl HP4.out.ats _ p rfl HBN.out hal (Nat.le_of_lt (Nat.lt_of_le_of_lt HP4.out.base HP4.out.blk.lt)) ?_; intro v' w4 h1 h2 h3; obtain ⟨a9, k9, rfl, -⟩ := h1.row; generalize (s.ats ++ [p]).length = mm at *; obtain ⟨hb5, hp5⟩ := HP4.out.setAts h1 h2 h3; have HP5 := Lib.hid hp5; have HB5 := Lib.hid ((HB4.out.row HP4.out.ats (Nat.le_refl _) (by decide) (Nat.le_of_lt (Nat.lt_of_le_of_lt HP4.out.base HP4.out.blk.lt)) h2).setB hb5 (by decide) HP4.out.base 4 (.slice a9 mm k9)); have d4 := hb5.cell 4; have d5 := hb5.cell 5; have df := hb5.frozen; simp at d4 d5; have hw := wrap_of (by omega : (s.count : Int) + 1 ≤ 1073741824) (by omega : (0 : Int) ≤ (s.count : Int) + 1); have hw2 := wrap_of (by omega : (s.count : Int) ≤ 1073741824) (by omega : (0 : Int) ≤ (s.count : Int)); clear hb5 hp5 h1 h2 h3 HP3 HB3 HP4 HB4 HBN c4 cf)
    have HL : Hid (s.lay n p = { read := s.read, opn := s.opn, nodes := s.nodes ++ [n], ats := s.ats ++ [p], count := s.count + 1 }) := by unfold Hid PS.lay; rw [if_pos hlt]
    have HP6 := Lib.hid (HP5.out.more hc)
    have HB6 := Lib.hid (HB5.out.setP0 HP5.out 5 (.int .i64 ((s.count : Int) + 1)))
    exact bodyPost_ret (v := .int .i64 (s.count : Int)) (by simp [results, Tryz.results140, go_sem]) rfl ⟨rfl, by rw [HL.out]; exact ⟨_, _, _, HP6.out⟩, HB6.out⟩
  · have hd : decide ((s.count : Int) < 4096) = false := decide_eq_false (by omega)
    have hnz : ¬ ((s.count : Int) < 4096) := by omega
    have HL : Hid (s.lay n p = { s with count := s.count + 1 }) := by unfold Hid PS.lay; rw [if_neg hlt]
    have df := HS1.out.st.blk.frozen
    have hw := wrap_of (by omega : (s.count : Int) + 1 ≤ 1073741824) (by omega : (0 : Int) ≤ (s.count : Int) + 1)
    have hw2 := wrap_of (by omega : (s.count : Int) ≤ 1073741824) (by omega : (0 : Int) ≤ (s.count : Int))
    have HP6 := Lib.hid (HS1.out.st.more hc)
    have HB6 := Lib.hid (HS1.out.bel.setP0 HS1.out.st 5 (.int .i64 ((s.count : Int) + 1)))
    clear HS1
    go_wp2
    exact bodyPost_ret (v := .int .i64 (s.count : Int)) (by simp [results, Tryz.results140, go_sem]) rfl ⟨rfl, by rw [HL.out]; exact ⟨_, _, _, HP6.out⟩, HB6.out⟩
end
end Go.Proofs.YtcgjmnhmhiddkaaGreatDoor
/- The parser's row of what is open: one more, one less. -/
namespace Go.Proofs.YtcgjmnhmhiddkaaGreatDoor
open Go Go.RowKit
set_option linter.unusedVariables false
set_option linter.unusedSimpArgs false

section
variable {w : World} {B pb : Nat} {A : Option Addr} {cp : Nat} {l : List Tk} {s : PS} {ov nv av : Value}
/-- One more is open. -/
theorem Pst0.setOpn {w' : World} {v : Value} {p : Int} (h : Pst0 w B pb A cp l s ov nv av) (h1 : OwnI w' B v (s.opn ++ [p])) (h2 : w.grownBy w' ov.ownBlock) (h3 : v.ownBlock = ov.ownBlock ∨ ∃ g', v.ownBlock = some g' ∧ w.heap.size ≤ g') (hl : s.opn.length < 16777216) :
    Blk w' pb #[.slice A l.length cp, .int .i64 (s.read : Int), ov, nv, av, .int .i64 (s.count : Int)] 151 ∧ Pst0 (w'.setCell ⟨pb, 2, none⟩ v) B pb A cp l { s with opn := s.opn ++ [p] } v nv av := by
  have hn : ∀ k, ov.ownBlock = some k → B ≤ k := fun k hk => (World.ownsRow.lt h.opn k hk).1
  have hp : ov.ownBlock ≠ some pb := fun e => own_typed h.opn h.blk (by decide) pb e rfl
  have hB : Below B w w' := (Below.refl B w).grown h2 (Nat.le_of_lt (Nat.lt_of_le_of_lt h.base h.blk.lt)) hn
  have na : av.ownBlock = none ∨ av.ownBlock ≠ ov.ownBlock := by
    cases hh : av.ownBlock with
    | none => left; rfl
    | some g => right; exact fun e => h.apart g e.symm hh
  have nn : nv.ownBlock = none ∨ nv.ownBlock ≠ ov.ownBlock := by
    rcases h.nodes.2 with ⟨e, _⟩ | ⟨g, c, cur, e, _, hg, _⟩
    · left; rw [e]; rfl
    · right
      rw [e]
      exact fun ee => own_typed h.opn (show Blk w g cur 44 from hg) (by decide) g ee.symm rfl
  have b4 := h.blk.gb hp h2
  have a4 : OwnI w' B av s.ats := World.ownsRow.kept h.ats h2 na
  have n4 : OwnN w' B nv s.nodes := World.ownsRow.kept h.nodes h2 nn
  refine ⟨b4, by simpa using b4.setCell 2 v, own_set h1 (own_typed h1 b4 (by decide)) _, own_set n4 (own_typed n4 b4 (by decide)) _, own_set a4 (own_typed a4 b4 (by decide)) _, fun g hg => ?_,
    (h.row.below h.low hB).below h.low ((Below.refl B w').setCell (p := ⟨pb, 2, none⟩) h.base _), h.low, h.base, h.long, h.rd, h.ct, by simp; omega⟩
  rcases h3 with h3 | ⟨g', h3, hg'⟩
  · rw [h3] at hg; exact h.apart g hg
  · rw [h3] at hg
    intro e
    have := (World.ownsRow.lt h.ats g e).2
    cases hg; omega
/-- One less is open. -/
theorem Pst0.dropOpn (h : Pst0 w B pb A cp l s ov nv av) (hl : 0 < s.opn.length) : ∃ g c, ov = .slice (some ⟨g, 0, none⟩) s.opn.length c ∧ s.opn.length ≤ c ∧ Pst0 (w.setCell ⟨pb, 2, none⟩ (.slice (some ⟨g, 0, none⟩) (s.opn.length - 1) c)) B pb A cp l { s with opn := s.opn.dropLast } (.slice (some ⟨g, 0, none⟩) (s.opn.length - 1) c) nv av := by
  obtain ⟨g, c, hv, hc, hg, ho⟩ := h.opn.drop hl
  refine ⟨g, c, hv, hc, by simpa using h.blk.setCell 2 (.slice (some ⟨g, 0, none⟩) (s.opn.length - 1) c), own_set ho (own_typed ho h.blk (by decide)) _, own_set h.nodes (own_typed h.nodes h.blk (by decide)) _, own_set h.ats (own_typed h.ats h.blk (by decide)) _, fun k hk => h.apart k (by rw [hv]; exact hk),
    h.row.below h.low ((Below.refl B w).setCell (p := ⟨pb, 2, none⟩) h.base _), h.low, h.base, h.long, h.rd, h.ct, by have := h.op; simp; omega⟩
end
end Go.Proofs.YtcgjmnhmhiddkaaGreatDoor
