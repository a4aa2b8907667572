/- The parser's want: walked. -/
import Derived.Test.YtcgjmnhmhiddkaaGreatDoorM13
import Derived.Test.YtcgjmnhmhiddkaaGreatDoorM12
namespace Go.Proofs.YtcgjmnhmhiddkaaGreatDoor
open Go Go.RowKit
set_option linter.unusedVariables false
set_option linter.unusedSimpArgs false
theorem Pst0.box9 {w : World} {B pb : Nat} {A : Option Addr} {cp : Nat} {l : List Tk} {s : PS} {ov nv av : Value} (h : Pst0 w B pb A cp l s ov nv av) {g : Nat} {c0 c1 c2 c3 c4 c5 c6 c7 c8 : Value} (hg : Blk w g #[c0, c1, c2, c3, c4, c5, c6, c7, c8] 76) (hB : B ≤ g) (v0 v1 v2 v3 v4 v5 v6 v7 v8 : Value) :
    Pst0 (((((((((w.setCell ⟨g, 0, none⟩ v0).setCell ⟨g, 1, none⟩ v1).setCell ⟨g, 2, none⟩ v2).setCell ⟨g, 3, none⟩ v3).setCell ⟨g, 4, none⟩ v4).setCell ⟨g, 5, none⟩ v5).setCell ⟨g, 6, none⟩ v6).setCell ⟨g, 7, none⟩ v7).setCell ⟨g, 8, none⟩ v8) B pb A cp l s ov nv av := by
  have n1 : 76 ≠ 151 := by decide
  have n2 : 76 ≠ 3 := by decide
  have n3 : 76 ≠ 44 := by decide
  have g1 := hg.setCell 0 v0
  have g2 := g1.setCell 1 v1
  have g3 := g2.setCell 2 v2
  have g4 := g3.setCell 3 v3
  have g5 := g4.setCell 4 v4
  have g6 := g5.setCell 5 v5
  have g7 := g6.setCell 6 v6
  have g8 := g7.setCell 7 v7
  exact ((((((((h.box hg n1 n2 n3 hB 0 v0).box g1 n1 n2 n3 hB 1 v1).box g2 n1 n2 n3 hB 2 v2).box g3 n1 n2 n3 hB 3 v3).box g4 n1 n2 n3 hB 4 v4).box g5 n1 n2 n3 hB 5 v5).box g6 n1 n2 n3 hB 6 v6).box g7 n1 n2 n3 hB 7 v7).box g8 n1 n2 n3 hB 8 v8
section
variable {w : World} {B pb : Nat} {A : Option Addr} {cp : Nat} {l : List Tk} {s : PS} {ov nv av : Value}
set_option maxHeartbeats 4000000 in
set_option maxRecDepth 100000 in
theorem want_bad (hP : Pst0 w B pb A cp l s ov nv av) {k e p : Int} (hk : (tkAt l s.read).kind ≠ k) (hf : faultP l s = .bad e p) :
    Calls Tryz.prog 118 #[.pointer (some ⟨pb, 0, none⟩), .int .i64 k] w (fun e' w' => e' = ftE e p ∧ Below w.heap.size w w') := by
  have HF := Lib.hid hf
  clear hf
  have HP1 : Hid (Pst0 (w.alloc (.cells z9 76)) B pb A cp l s ov nv av) := hP.later ((Below.refl _ _).alloc (Nat.le_refl _) _)
  have HB1 := Lib.hid ((Below.refl w.heap.size w).alloc (Nat.le_refl _) (.cells z9 76))
  have HX1 := Lib.hid (Blk.new w z9 76)
  have hlt0 := hP.blk.lt
  have hBw : B ≤ w.heap.size := Nat.le_of_lt (Nat.lt_of_le_of_lt hP.base hlt0)
  clear hP
  unfold z9 at HP1 HB1 HX1
  go_enter Tryz.func118, Tryz.ntmps118
  go_upto_region 1 with (fail)
  generalize w.alloc (.cells #[.int .i64 0, .int .i64 0, .int .u64 0, .int .u64 0, .int .u64 0, .int .u64 0, .string ⟨#[]⟩, .int .i64 0, .int .i64 0] 76) = w1 at *
  go_wp2_with fail
  refine (HP1.out.token).mono ?_; rintro e1 w2 ⟨rfl, hb2⟩
  have HP2 := Lib.hid (HP1.out.later hb2)
  have HX2 := Lib.hid (HX1.out.later hb2)
  have HB2 := Lib.hid (HB1.out.trans (hb2.mono HB1.out.size))
  clear hb2 HP1 HX1 HB1
  generalize hx : tkAt l s.read = x at *
  have HXE := Lib.hid hx
  clear hx
  have hk9 := Lib.hid (Blk.new w2 (tkC x) 76)
  have hb9 := Lib.hid ((Below.refl w2.heap.size w2).alloc (Nat.le_refl _) (.cells (tkC x) 76))
  unfold tkC at *
  go_upto_region 2 with (fail)
  generalize w2.alloc (.cells #[.int .i64 x.kind, .int .i64 x.at_, .int .u64 (wd x.cls 0), .int .u64 (wd x.cls 1), .int .u64 (wd x.cls 2), .int .u64 (wd x.cls 3), .string (bs x.text), .int .i64 x.lo, .int .i64 x.hi] 76) = w3 at *
  have HP3 := Lib.hid (HP2.out.later hb9.out)
  have HX3 := Lib.hid (HX2.out.later hb9.out)
  have HB3 := Lib.hid (HB2.out.trans (hb9.out.mono HB2.out.size))
  clear HP2 HX2 HB2 hb9
  generalize w2.heap.size = tb at *
  obtain ⟨t0, -, -, -, -, -, -, -, -⟩ := nine_cells hk9.out
  clear hk9
  have hn : (x.kind != k) = true := by rw [bne_iff_ne]; exact hk
  go_wp2_with fail
  refine (HP3.out.fault HF.out).mono ?_; rintro e2 w4 ⟨rfl, hb4⟩
  have HB4 := Lib.hid (HB3.out.trans (hb4.mono HB3.out.size))
  clear hb4
  go_wp2
  exact ⟨rfl, rfl, HB4.out⟩
set_option maxHeartbeats 4000000 in
set_option maxRecDepth 100000 in
theorem want_ok (hP : Pst0 w B pb A cp l s ov nv av) {k : Int} (hk : (tkAt l s.read).kind = k) (hr : s.read < 16777216) :
    Calls Tryz.prog 118 #[.pointer (some ⟨pb, 0, none⟩), .int .i64 k] w (fun e' w' => e' = .returned (.agg (tkC (tkAt l s.read))) ∧ Pst0 w' B pb A cp l s.next ov nv av ∧ Fr B w w') := by
  have HKK := Lib.hid hk
  clear hk
  have HP1 : Hid (Pst0 (w.alloc (.cells z9 76)) B pb A cp l s ov nv av) := hP.later ((Below.refl _ _).alloc (Nat.le_refl _) _)
  have HB1 := Lib.hid ((Below.refl w.heap.size w).alloc (Nat.le_refl _) (.cells z9 76))
  have HX1 := Lib.hid (Blk.new w z9 76)
  have hlt0 := hP.blk.lt
  have hBw : B ≤ w.heap.size := Nat.le_of_lt (Nat.lt_of_le_of_lt hP.base hlt0)
  clear hP
  unfold z9 at HP1 HB1 HX1
  go_enter Tryz.func118, Tryz.ntmps118
  go_upto_region 1 with (fail)
  generalize w.alloc (.cells #[.int .i64 0, .int .i64 0, .int .u64 0, .int .u64 0, .int .u64 0, .int .u64 0, .string ⟨#[]⟩, .int .i64 0, .int .i64 0] 76) = w1 at *
  go_wp2_with fail
  refine (HP1.out.token).mono ?_; rintro e1 w2 ⟨rfl, hb2⟩
  have HP2 := Lib.hid (HP1.out.later hb2)
  have HX2 := Lib.hid (HX1.out.later hb2)
  have HB2 := Lib.hid (HB1.out.trans (hb2.mono HB1.out.size))
  clear hb2 HP1 HX1 HB1
  generalize hx : tkAt l s.read = x at *
  have HXE := Lib.hid hx
  clear hx
  have hk9 := Lib.hid (Blk.new w2 (tkC x) 76)
  have hb9 := Lib.hid ((Below.refl w2.heap.size w2).alloc (Nat.le_refl _) (.cells (tkC x) 76))
  unfold tkC at *
  go_upto_region 2 with (fail)
  generalize w2.alloc (.cells #[.int .i64 x.kind, .int .i64 x.at_, .int .u64 (wd x.cls 0), .int .u64 (wd x.cls 1), .int .u64 (wd x.cls 2), .int .u64 (wd x.cls 3), .string (bs x.text), .int .i64 x.lo, .int .i64 x.hi] 76) = w3 at *
  have HP3 := Lib.hid (HP2.out.later hb9.out)
  have HX3 := Lib.hid (HX2.out.later hb9.out)
  have HB3 := Lib.hid (HB2.out.trans (hb9.out.mono HB2.out.size))
  clear HP2 HX2 HB2 hb9
  generalize w2.heap.size = tb at *
  have hn : (x.kind != k) = false := by rw [HKK.out]; simp
  obtain ⟨t0, -, -, -, -, -, -, -, -⟩ := nine_cells hk9.out
  have c1 := HP3.out.blk.cell 1
  simp at c1
  have fz := HP3.out.blk.frozen
  have hrz : (s.read : Int) < 16777216 := by omega
  have hw : wrap64 ((s.read : Int) + 1) = (s.read : Int) + 1 := by unfold wrap64; omega
  have HP4 := Lib.hid (HP3.out.next hr)
  have HB4 := Lib.hid ((Fr.of HB3.out hBw).setP0 HP3.out 1 (.int .i64 ((s.read : Int) + 1)))
  have HX4 := Lib.hid (HX3.out.setCell_ne (a := ⟨pb, 1, none⟩) (Blk.typed2 HP3.out.blk HX3.out (by decide)) (.int .i64 ((s.read : Int) + 1)))
  have HK4 := Lib.hid (hk9.out.setCell_ne (a := ⟨pb, 1, none⟩) (Blk.typed2 HP3.out.blk hk9.out (by decide)) (.int .i64 ((s.read : Int) + 1)))
  clear HP3 HX3 HB3 
  go_upto_region 5 with (fail)
  generalize w3.setCell ⟨pb, 1, none⟩ (.int .i64 ((s.read : Int) + 1)) = w4 at *
  clear t0 c1 fz hw hk9
  obtain ⟨t0, t1, t2, t3, t4, t5, t6, t7, t8⟩ := nine_cells HK4.out
  obtain ⟨m0, m1, m2, m3, m4, m5, m6, m7, m8⟩ := nine_cells HX4.out
  obtain ⟨n0, n1, n2, n3, n4, n5, n6, n7, n8⟩ := nine HX4.out
  have nf := HX4.out.frozen
  have HPE := Lib.hid (HP4.out.box9 HX4.out hBw (.int .i64 x.kind) (.int .i64 x.at_) (.int .u64 (wd x.cls 0)) (.int .u64 (wd x.cls 1)) (.int .u64 (wd x.cls 2)) (.int .u64 (wd x.cls 3)) (.string (bs x.text)) (.int .i64 x.lo) (.int .i64 x.hi))
  have HBE := Lib.hid (fr9 HB4.out HX4.out hBw (.int .i64 x.kind) (.int .i64 x.at_) (.int .u64 (wd x.cls 0)) (.int .u64 (wd x.cls 1)) (.int .u64 (wd x.cls 2)) (.int .u64 (wd x.cls 3)) (.string (bs x.text)) (.int .i64 x.lo) (.int .i64 x.hi))
  have hbk := Lib.hid (nine_cells (nine_blk HX4.out (.int .i64 x.kind) (.int .i64 x.at_) (.int .u64 (wd x.cls 0)) (.int .u64 (wd x.cls 1)) (.int .u64 (wd x.cls 2)) (.int .u64 (wd x.cls 3)) (.string (bs x.text)) (.int .i64 x.lo) (.int .i64 x.hi)))
  clear HP4 HX4 HB4 HK4
  go_wp2
  obtain ⟨r0, r1, r2, r3, r4, r5, r6, r7, r8⟩ := hbk.out
  exact bodyPost_ret (v := .agg #[.int .i64 x.kind, .int .i64 x.at_, .int .u64 (wd x.cls 0), .int .u64 (wd x.cls 1), .int .u64 (wd x.cls 2), .int .u64 (wd x.cls 3), .string (bs x.text), .int .i64 x.lo, .int .i64 x.hi]) (by simp [results, Tryz.results118, go_sem, r0, r1, r2, r3, r4, r5, r6, r7, r8]) rfl ⟨by rw [HXE.out]; rfl, HPE.out, HBE.out⟩
end
theorem nd_one (t : Nd) : ∀ u ∈ flat10 [t], u.oneCell' = true := flat10_ones [t]
theorem nd_news {w : World} {b : Nat} {t : Nd} (hnew : Blk w b (ndC t) 44) : ∀ (j : Nat) (u : Value), (flat10 [t])[j]? = some u → w.cell? ((⟨b, 0, none⟩ : Addr).add j) = some u := by
  intro j u hu
  have hadd : (⟨b, 0, none⟩ : Addr).add j = ⟨b, j, none⟩ := by unfold Addr.add; split <;> simp_all
  have hf1 : flat10 [t] = (ndC t).toList := by simp [flat10]
  rw [hf1] at hu
  rw [hadd, hnew.cell, ← hu]; simp
set_option maxRecDepth 100000 in
theorem wp_append_nd2 {w : World} {o : Oper} {a : Act} {K : Act → World → Prop} {Q : Exit → Act → World → Prop} (s x : Operand)
    (ho : o.op = .call { callee := .builtin .append, args := #[s, x], argTypes := #[23, 23] })
    (base : Nat) (v : Value) (l : List Nd) (hs : a.eval s = v) (hown : OwnN w base v l)
    (b : Nat) (t : Nd) (hx : a.eval x = .slice (some ⟨b, 0, none⟩) 1 1) (hnew : Blk w b (ndC t) 44) (hlen : l.length < 1073741824) (hbase : base ≤ w.heap.size)
    (h : ∀ v' w', OwnN w' base v' (l ++ [t]) → w.grownBy w' v.ownBlock → (v'.ownBlock = v.ownBlock ∨ ∃ g', v'.ownBlock = some g' ∧ w.heap.size ≤ g') → OwnN w' base v l → (∀ u, OwnN w base u (l ++ [t]) → OwnN w' base u (l ++ [t])) → K (a.put o.dst v') w') : o.wp Tryz.prog a w K Q := by
  obtain ⟨ib, hib, hz0, hz1, hz2⟩ := info_parts infoNd
  have hnews := nd_news hnew
  have hone := nd_one t
  obtain ⟨v', w', hr, h2, h3, _⟩ := run_append_own (P := Tryz.prog) w base 23 o.type 44 ib _ 10 88 Tryz.underlying23 hib hz0 hz1 hz2 rfl (by decide) v l.length (flat10 l) hown ⟨b, 0, none⟩ 1 1 (flat10 [t]) rfl hnews hone (by unfold maxLen; omega) (by omega) hbase
  have h2' : OwnN w' base v' (l ++ [t]) := by unfold OwnN; rw [List.length_append, flat10_append]; exact h2
  have place : (v'.ownBlock = v.ownBlock ∨ ∃ g', v'.ownBlock = some g' ∧ w.heap.size ≤ g') ∧ OwnN w' base v l ∧ (∀ u, OwnN w base u (l ++ [t]) → OwnN w' base u (l ++ [t])) := by
    rcases hown.2 with ⟨rfl, hn⟩ | ⟨g', cap, cur, rfl, hbg, hgg, hnc, hcm, hcs, htake⟩
    · have hl0 : l = [] := List.length_eq_zero_iff.1 hn
      subst hl0
      obtain ⟨v2, w2, hr2, h4, _, _⟩ := run_append_own (P := Tryz.prog) w w.heap.size 23 o.type 44 ib _ 10 88 Tryz.underlying23 hib hz0 hz1 hz2 rfl (by decide) (.slice none 0 0) 0 [] ⟨rfl, .inl ⟨rfl, rfl⟩⟩ ⟨b, 0, none⟩ 1 1 (flat10 [t]) rfl hnews hone (by unfold maxLen; omega) (by omega) (Nat.le_refl _)
      rw [hr] at hr2
      simp only [Result.ok.injEq] at hr2
      obtain ⟨rfl, rfl⟩ := hr2
      refine ⟨?_, OwnN.nil _ _, fun u hu => World.ownsRow.kept hu h3 (by cases hh : u.ownBlock <;> simp [Value.ownBlock])⟩
      rcases h4.2 with ⟨_, h5⟩ | ⟨g2, cap2, cur2, hv, hb2, _⟩
      · omega
      · exact .inr ⟨g2, by rw [hv]; rfl, hb2⟩
    · by_cases hroom : l.length + 1 ≤ cap
      · have hr2 := run_append_room (P := Tryz.prog) w 23 o.type 44 ib Tryz.underlying23 hib g' l.length cap cur hgg ⟨b, 0, none⟩ 1 1 (flat10 [t]) (by rw [hz1]; rfl) hnews hone hroom (by rw [hz1, hcs]; simp [flat10_length]; omega)
        rw [hr] at hr2
        simp only [Result.ok.injEq] at hr2
        refine ⟨.inl (by rw [hr2.1]; rfl), ?_⟩
        have hv := hr2.1
        have hown2 := h2'
        obtain ⟨q0, ⟨q1, _⟩ | ⟨g2, cap2, cur2, q1, q2, q3, q4, q5, q6, q7⟩⟩ := h2'
        · rw [hv] at q1; cases q1
        · rw [hv] at q1
          simp only [Value.slice.injEq, Option.some.injEq, Addr.mk.injEq, and_true] at q1
          obtain ⟨rfl, q8, rfl⟩ := q1
          refine ⟨⟨by rw [flat10_length], .inr ⟨g', cap, cur2, rfl, hbg, q3, hnc, hcm, q6, ?_⟩⟩, fun u hu => ?_⟩
          case refine_2 =>
            by_cases hgu : u.ownBlock = some g'
            · obtain ⟨u0, ⟨u1, _⟩ | ⟨g3, cap3, cur3, u1, u2, u3, u4, u5, u6, u7⟩⟩ := hu
              · rw [u1] at hgu; cases hgu
              · rw [u1] at hgu
                have e3 : g3 = g' := by simpa [Value.ownBlock] using hgu
                subst e3
                have e4 := u3.symm.trans hgg
                simp only [Option.some.injEq, Obj.cells.injEq, and_true] at e4
                have e5 : cap3 = cap := by rw [e4] at u6; omega
                rw [u1, e5, ← q8, ← hv]; exact hown2
            · exact World.ownsRow.kept hu h3 (by right; exact hgu)
          have e : cur2.toList.take (l.length * 10) = (cur2.toList.take ((l ++ [t]).length * 10)).take (l.length * 10) := by rw [List.take_take]; congr 1; simp
          rw [e, q7, flat10_append]
          rw [List.take_append_of_le_length (by rw [flat10_length]; omega), ← flat10_length, List.take_length]
      · have holds := World.ownsRow.cells (w := w) (base := base) (e := 44) (size := 10) (v := .slice (some ⟨g', 0, none⟩) l.length cap) (n := l.length) (xs := flat10 l) hown (g := g') rfl
        have hr2 := run_append_grow (P := Tryz.prog) w 23 o.type 44 ib _ Tryz.underlying23 hib hz0 ⟨g', 0, none⟩ l.length cap (flat10 l) (by rw [hz1]; exact flat10_length l) holds ⟨b, 0, none⟩ 1 1 (flat10 [t]) (by rw [hz1]; rfl) hnews (by omega) (by omega) (by rw [hz2]; exact growslice_fits (by omega) (by omega))
        rw [hr] at hr2
        simp only [Result.ok.injEq] at hr2
        refine ⟨.inr ⟨w.heap.size, by rw [hr2.1]; rfl, Nat.le_refl _⟩, ?_⟩
        have hb : Below w.heap.size w w' := by rw [hr2.2]; exact ((Below.refl _ w).drew).alloc (Nat.le_refl _) _
        exact ⟨hown.later hb, fun u hu => hu.later hb⟩
  unfold Oper.wp execOp
  simp only [ho, resolve, invoke, builtin, Sem.run_bind, Sem.run_pure, Result.andThen_ok, List.map_toArray, List.map_cons, List.map_nil, hs, hx, hr]
  exact h v' w' h2' h3 place.1 place.2.1 place.2.2
theorem wrap_of {x : Int} (h : x ≤ 1073741824) (h0 : 0 ≤ x) : wrap64 x = x := by unfold wrap64; omega
def LyR (B : Nat) (nv : Value) (nodes : List Nd) (n : Nd) (w w' : World) : Prop := w.grownBy w' nv.ownBlock ∧ (OwnN w B nv nodes → OwnN w' B nv nodes) ∧ (∀ u, OwnN w B u (nodes ++ [n]) → OwnN w' B u (nodes ++ [n]))
theorem LyR.of {B : Nat} {nv : Value} {nodes : List Nd} {n : Nd} (w w' : World) (hb : Below w.heap.size w w') : LyR B nv nodes n w w' := ⟨gb_of hb, fun h => h.later hb, fun u h => h.later hb⟩
theorem Blk.gb {w w' : World} {b : Nat} {vs : Array Value} {t : TypeId} {ro : Option Nat} (h : Blk w b vs t) (hne : ro ≠ some b) (hg : w.grownBy w' ro) : Blk w' b vs t := (hg.block b h.lt (fun e => hne e.symm)).trans h
section
variable {w : World} {B pb : Nat} {A : Option Addr} {cp : Nat} {l : List Tk} {s : PS} {ov nv av : Value}
theorem Pst0.fresh (h : Pst0 w B pb A cp l s ov nv av) : nv.ownBlock ≠ some w.heap.size := fun e => Nat.lt_irrefl _ (World.ownsRow.lt h.nodes _ e).2
theorem Pst0.grow {w' : World} {n : Nd} (h : Pst0 w B pb A cp l s ov nv av) (hr : LyR B nv s.nodes n w w') : Pst0 w' B pb A cp l s ov nv av := by
  have hn : ∀ k, nv.ownBlock = some k → B ≤ k := fun k hk => (World.ownsRow.lt h.nodes k hk).1
  have hp : nv.ownBlock ≠ some pb := fun e => own_typed h.nodes h.blk (by decide) pb e rfl
  have hB : Below B w w' := (Below.refl B w).grown hr.1 (Nat.le_of_lt (Nat.lt_of_le_of_lt h.base h.blk.lt)) hn
  have ne : ∀ {v : Value} {xs : List Int}, OwnI w B v xs → v.ownBlock = none ∨ v.ownBlock ≠ nv.ownBlock := fun {v xs} hv => by
    rcases hv.2 with ⟨e, _⟩ | ⟨g, c, cur, e, _, hg, _⟩
    · left; rw [e]; rfl
    · right
      rw [e]
      exact fun ee => own_typed h.nodes (show Blk w g cur 3 from hg) (by decide) g ee.symm rfl
  exact ⟨h.blk.gb hp hr.1, World.ownsRow.kept h.opn hr.1 (ne h.opn), hr.2.1 h.nodes, World.ownsRow.kept h.ats hr.1 (ne h.ats), h.apart, h.row.below h.low hB, h.low, h.base, h.long, h.rd, h.ct, h.op⟩
structure LyS (w0 : World) (B pb : Nat) (A : Option Addr) (cp : Nat) (l : List Tk) (s : PS) (ov nv av : Value) (bx : Nat) (n : Nd) (w : World) : Prop where
  bel : Fr B w0 w
  st : Pst0 w B pb A cp l s ov nv av
  box : Blk w bx (ndC n) 44
  ne : nv.ownBlock ≠ some bx
theorem Pst0.setNodes (h : Pst0 w B pb A cp l s ov nv av) {v : Value} {m : List Nd} (hv : OwnN w B v m) : Pst0 (w.setCell ⟨pb, 3, none⟩ v) B pb A cp l { s with nodes := m } ov v av := by
  have hb := h.blk.setCell 3 v
  exact ⟨by simpa using hb, own_set h.opn (own_typed h.opn h.blk (by decide)) _, own_set hv (own_typed hv h.blk (by decide)) _, own_set h.ats (own_typed h.ats h.blk (by decide)) _, h.apart,
    h.row.below h.low ((Below.refl B w).setCell (p := ⟨pb, 3, none⟩) h.base _), h.low, h.base, h.long, h.rd, h.ct, h.op⟩
theorem Pst0.setAts {w' : World} {v : Value} {p : Int} (h : Pst0 w B pb A cp l s ov nv av) (h1 : OwnI w' B v (s.ats ++ [p])) (h2 : w.grownBy w' av.ownBlock) (h3 : v.ownBlock = av.ownBlock ∨ ∃ g', v.ownBlock = some g' ∧ w.heap.size ≤ g') :
    Blk w' pb #[.slice A l.length cp, .int .i64 (s.read : Int), ov, nv, av, .int .i64 (s.count : Int)] 151 ∧ Pst0 (w'.setCell ⟨pb, 4, none⟩ v) B pb A cp l { s with ats := s.ats ++ [p] } ov nv v := by
  have hn : ∀ k, av.ownBlock = some k → B ≤ k := fun k hk => (World.ownsRow.lt h.ats k hk).1
  have hp : av.ownBlock ≠ some pb := fun e => own_typed h.ats h.blk (by decide) pb e rfl
  have hB : Below B w w' := (Below.refl B w).grown h2 (Nat.le_of_lt (Nat.lt_of_le_of_lt h.base h.blk.lt)) hn
  have no : ov.ownBlock = none ∨ ov.ownBlock ≠ av.ownBlock := by
    cases hh : ov.ownBlock with
    | none => left; rfl
    | some g => right; exact fun e => h.apart g hh e.symm
  have nn : nv.ownBlock = none ∨ nv.ownBlock ≠ av.ownBlock := by
    rcases h.nodes.2 with ⟨e, _⟩ | ⟨g, c, cur, e, _, hg, _⟩
    · left; rw [e]; rfl
    · right
      rw [e]
      exact fun ee => own_typed h.ats (show Blk w g cur 44 from hg) (by decide) g ee.symm rfl
  have b4 := h.blk.gb hp h2
  have o4 : OwnI w' B ov s.opn := World.ownsRow.kept h.opn h2 no
  have n4 : OwnN w' B nv s.nodes := World.ownsRow.kept h.nodes h2 nn
  refine ⟨b4, by simpa using b4.setCell 4 v, own_set o4 (own_typed o4 b4 (by decide)) _, own_set n4 (own_typed n4 b4 (by decide)) _, own_set h1 (own_typed h1 b4 (by decide)) _, fun g hg => ?_,
    (h.row.below h.low hB).below h.low ((Below.refl B w').setCell (p := ⟨pb, 4, none⟩) h.base _), h.low, h.base, h.long, h.rd, h.ct, h.op⟩
  rcases h3 with h3 | ⟨g', h3, hg'⟩
  · rw [h3]; exact h.apart g hg
  · rw [h3]
    have := (World.ownsRow.lt h.opn g hg).2
    intro e; cases e; omega
theorem Pst0.more (h : Pst0 w B pb A cp l s ov nv av) (hc : s.count < 1073741824) : Pst0 (w.setCell ⟨pb, 5, none⟩ (.int .i64 ((s.count : Int) + 1))) B pb A cp l { s with count := s.count + 1 } ov nv av := by
  have hb := h.blk.setCell 5 (.int .i64 ((s.count : Int) + 1))
  exact ⟨by simpa using hb, own_set h.opn (own_typed h.opn h.blk (by decide)) _, own_set h.nodes (own_typed h.nodes h.blk (by decide)) _, own_set h.ats (own_typed h.ats h.blk (by decide)) _, h.apart,
    h.row.below h.low ((Below.refl B w).setCell (p := ⟨pb, 5, none⟩) h.base _), h.low, h.base, h.long, h.rd, by simp only; omega, h.op⟩
theorem LyS.grow {w0 w' : World} {bx : Nat} {n : Nd} (h : LyS w0 B pb A cp l s ov nv av bx n w) (hr : LyR B nv s.nodes n w w') : LyS w0 B pb A cp l s ov nv av bx n w' :=
  ⟨h.bel.row h.st.nodes (Nat.le_refl _) (by decide) (Nat.le_of_lt (Nat.lt_of_le_of_lt h.st.base h.st.blk.lt)) hr.1, h.st.grow hr, h.box.gb h.ne hr.1, h.ne⟩
end
def NewY (nv : Value) (n : Nd) (v : Value) (w : World) : Prop := ∃ b, v = .slice (some ⟨b, 0, none⟩) 1 1 ∧ Blk w b (ndC n) 44 ∧ nv.ownBlock ≠ some b
theorem NewY.grow {B : Nat} {nv : Value} {nodes : List Nd} (n : Nd) (v : Value) (w w' : World) (h : NewY nv n v w) (hr : LyR B nv nodes n w w') : NewY nv n v w' := by
  obtain ⟨b, h1, h2, h3⟩ := h
  exact ⟨b, h1, h2.gb h3 hr.1, h3⟩
def AppY (B : Nat) (nodes : List Nd) (n : Nd) (v : Value) (w : World) : Prop := OwnN w B v (nodes ++ [n])
theorem AppY.grow {B : Nat} {nv : Value} (nodes : List Nd) (n : Nd) (v : Value) (w w' : World) (h : AppY B nodes n v w) (hr : LyR B nv nodes n w w') : AppY B nodes n v w' := hr.2.2 v h
section
variable {w : World} {B pb : Nat} {A : Option Addr} {cp : Nat} {l : List Tk} {s : PS} {ov nv av : Value}
set_option maxHeartbeats 8000000 in
set_option maxRecDepth 100000 in
theorem lay_any (hP : Pst0 w B pb A cp l s ov nv av) (n : Nd) (p : Int) (hc : s.count < 1073741824) (hnl : s.nodes.length < 1073741824) (hal : s.ats.length < 1073741824) :
    Calls Tryz.prog 140 #[.pointer (some ⟨pb, 0, none⟩), .agg (ndC n), .int .i64 p] w (RunPost B pb A cp l w (.ok (s.count : Int) (s.lay n p))) := by
  have hlt0 := hP.blk.lt
  have hBw : B ≤ w.heap.size := Nat.le_of_lt (Nat.lt_of_le_of_lt hP.base hlt0)
  have HS1 : Hid (LyS w B pb A cp l s ov nv av w.heap.size n (w.alloc (.cells (ndC n) 44))) :=
    ⟨Fr.of ((Below.refl _ _).alloc (Nat.le_refl _) _) hBw, hP.later ((Below.refl _ _).alloc (Nat.le_refl _) _), Blk.new w _ _, fun e => by have := (World.ownsRow.lt hP.nodes _ e).2; omega⟩
  clear hP
  unfold ndC at HS1 ⊢
  go_enter Tryz.func140, Tryz.ntmps140
  go_upto_region 1 with (fail)
  generalize w.alloc (.cells #[.int .i64 n.kind, .int .i64 n.a, .int .i64 n.b, .int .i64 n.lo, .int .i64 n.hi, .int .u64 (wd n.cls 0), .int .u64 (wd n.cls 1), .int .u64 (wd n.cls 2), .int .u64 (wd n.cls 3), .string (bs n.text)] 44) = w1 at *
  have c5 := HS1.out.st.blk.cell 5
  simp at c5
  by_cases hlt : s.count < 4096
  · have hd : decide ((s.count : Int) < 4096) = true := decide_eq_true (by omega)
    have hltz : (s.count : Int) < 4096 := by omega
    go_upto_region 2 with (fail)
    clear c5
    have hR : ∀ w w', Below w.heap.size w w' → LyR B nv s.nodes n w w' := fun w w' => LyR.of w w'
    have HR := Lib.hid hR
    clear hR
    refine G.wp_region_stable_tail (R := (LyR B nv s.nodes n)) HR.out 10 (S := (LyS w B pb A cp l s ov nv av w.heap.size n)) (hSt := fun _ _ h hr => h.grow hr) (plan := [[(0, none)], [(0, none)], [(13, some 1)], [(14, some 2)], [(15, some 3)], [(4, none)], [(17, some 5)], [(16, some 4), (18, some 6)], [(12, some 0)], [(20, some 8)]]) rfl rfl (by kernel_rfl) (by kernel_rfl) (by kernel_rfl) (by kernel_rfl) ?hS ?_
    rotate_left
    iterate 6 first
      | (refine G.chain_skip (by rfl) (by rfl) ?_)
      | (apply G.chain_want (by rfl)
         · intro act wx hS hr
           simp at hr
           have c3 := hS.st.blk.cell 3
           have cl := hS.st.blk.lt
           obtain ⟨f0, f1, f2, f3, f4, f5, f6, f7, f8, f9⟩ := ten_cells hS.box
           simp at c3
           go_simp
           (try go_ints)
           first
             | exact G.Done.same HR.out (v := .agg (ndC n))
             | exact G.Done.same HR.out
        )
    (refine G.chain_rel (NewY nv n) (NewY.grow n) (by rfl) ?_ ?_
     · intro act wx hS hr
       simp at hr
       have c3 := hS.st.blk.cell 3
       have cl := hS.st.blk.lt
       obtain ⟨f0, f1, f2, f3, f4, f5, f6, f7, f8, f9⟩ := ten_cells hS.box
       simp at c3
       unfold ndC at hr
       clear f0 f1 f2 f3 f4 f5 f6 f7 f8 f9 c3
       all_goals go_simp
       exact G.Done.rel (HR.out _ _ ((Below.refl _ _).alloc (Nat.le_refl _) _)) ⟨_, rfl, Blk.new wx (ndC n) _, hS.st.fresh⟩
    )
    (refine G.chain_rel (AppY B s.nodes n) (AppY.grow s.nodes n) (by rfl) ?_ ?_
     · intro act wx hS hr
       simp at hr
       have c3 := hS.st.blk.cell 3
       have cl := hS.st.blk.lt
       obtain ⟨f0, f1, f2, f3, f4, f5, f6, f7, f8, f9⟩ := ten_cells hS.box
       simp at c3
       obtain ⟨hr2, v, hr3, b, rfl, hk, hne⟩ := hr
       refine wp_append_nd2 (.tmp 16) (.tmp 18) rfl B nv s.nodes (by simp [Act.eval, hr2]) hS.st.nodes b n (by simp [Act.eval, hr3]) hk hnl (Nat.le_of_lt (Nat.lt_of_le_of_lt hS.st.base cl)) ?_
       intro v' w' q1 q2 q3 q4 q5
       exact G.Done.rel ⟨q2, fun _ => q4, q5⟩ q1
       all_goals go_simp
    )
    iterate 2 first
      | (refine G.chain_skip (by rfl) (by rfl) ?_)
      | (apply G.chain_want (by rfl)
         · intro act wx hS hr
           simp at hr
           have c3 := hS.st.blk.cell 3
           have cl := hS.st.blk.lt
           obtain ⟨f0, f1, f2, f3, f4, f5, f6, f7, f8, f9⟩ := ten_cells hS.box
           simp at c3
           go_simp
           (try go_ints)
           first
             | exact G.Done.same HR.out (v := .agg (ndC n))
             | exact G.Done.same HR.out
        )
    show ∀ w', _ → _
    intro wz hz
    simp [Act.put]
    case hS => exact HS1.out
    intro v6 hv6 v7 hv7
    have hv8 : OwnN wz B v7 (s.nodes ++ [n]) := hv7
    obtain ⟨a7, k7, rfl, -⟩ := hv8.row
    have HP3 := Lib.hid (hz.st.setNodes hv8)
    have HB3 := Lib.hid (hz.bel.setP0 hz.st 3 (.slice a7 (s.nodes ++ [n]).length k7))
    have c3 := hz.st.blk.cell 3
    have cf := hz.st.blk.frozen
    simp at c3
    clear hz hv6 hv7 hv8 HS1 HR
    generalize (s.nodes ++ [n]).length = nn at *
    go_upto_region 3 with (fail)
    generalize wz.setCell ⟨pb, 3, none⟩ (.slice a7 nn k7) = w2 at *
    clear c3 cf
    obtain ⟨a8, k8, hav, -⟩ := HP3.out.ats.row
    subst hav
    have c4 := HP3.out.blk.cell 4
    have cf := HP3.out.blk.frozen
    simp at c4
    have HBN := Lib.hid (Blk.new w2 #[.int .i64 p] 3)
    have HP4 := Lib.hid (HP3.out.later ((Below.refl _ _).alloc (Nat.le_refl _) (.cells #[.int .i64 p] 3)))
    have HB4 := Lib.hid (HB3.out.alloc (Nat.le_of_lt (Nat.lt_of_le_of_lt HP3.out.base HP3.out.blk.lt)) (.cells #[.int .i64 p] 3))
    go_wp2_with (at_builtin; refine wpList_append_int rfl _ _ rfl B (.slice a8 s.ats.length k8) s.ats rfl HP4.out.ats _ p rfl HBN.out hal (Nat.le_of_lt (Nat.lt_of_le_of_lt HP4.out.base HP4.out.blk.lt)) ?_; intro v' w4 h1 h2 h3; obtain ⟨a9, k9, rfl, -⟩ := h1.row; generalize (s.ats ++ [p]).length = mm at *; obtain ⟨hb5, hp5⟩ := HP4.out.setAts h1 h2 h3; have HP5 := Lib.hid hp5; have HB5 := Lib.hid ((HB4.out.row HP4.out.ats (Nat.le_refl _) (by decide) (Nat.le_of_lt (Nat.lt_of_le_of_lt HP4.out.base HP4.out.blk.lt)) h2).setB hb5 (by decide) HP4.out.base 4 (.slice a9 mm k9)); have d4 := hb5.cell 4; have d5 := hb5.cell 5; have df := hb5.frozen; simp at d4 d5; have hw := wrap_of (by omega : (s.count : Int) + 1 ≤ 1073741824) (by omega : (0 : Int) ≤ (s.count : Int) + 1); have hw2 := wrap_of (by omega : (s.count : Int) ≤ 1073741824) (by omega : (0 : Int) ≤ (s.count : Int)); clear hb5 hp5 h1 h2 h3 HP3 HB3 HP4 HB4 HBN c4 cf)
    have HL : Hid (s.lay n p = { read := s.read, opn := s.opn, nodes := s.nodes ++ [n], ats := s.ats ++ [p], count := s.count + 1 }) := by unfold Hid PS.lay; rw [if_pos hlt]
    have HP6 := Lib.hid (HP5.out.more hc)
    have HB6 := Lib.hid (HB5.out.setP0 HP5.out 5 (.int .i64 ((s.count : Int) + 1)))
    exact bodyPost_ret (v := .int .i64 (s.count : Int)) (by simp [results, Tryz.results140, go_sem]) rfl ⟨rfl, by rw [HL.out]; exact ⟨_, _, _, HP6.out⟩, HB6.out⟩
  · have hd : decide ((s.count : Int) < 4096) = false := decide_eq_false (by omega)
    have hnz : ¬ ((s.count : Int) < 4096) := by omega
    have HL : Hid (s.lay n p = { s with count := s.count + 1 }) := by unfold Hid PS.lay; rw [if_neg hlt]
    have df := HS1.out.st.blk.frozen
    have hw := wrap_of (by omega : (s.count : Int) + 1 ≤ 1073741824) (by omega : (0 : Int) ≤ (s.count : Int) + 1)
    have hw2 := wrap_of (by omega : (s.count : Int) ≤ 1073741824) (by omega : (0 : Int) ≤ (s.count : Int))
    have HP6 := Lib.hid (HS1.out.st.more hc)
    have HB6 := Lib.hid (HS1.out.bel.setP0 HS1.out.st 5 (.int .i64 ((s.count : Int) + 1)))
    clear HS1
    go_wp2
    exact bodyPost_ret (v := .int .i64 (s.count : Int)) (by simp [results, Tryz.results140, go_sem]) rfl ⟨rfl, by rw [HL.out]; exact ⟨_, _, _, HP6.out⟩, HB6.out⟩
end
section
variable {w : World} {B pb : Nat} {A : Option Addr} {cp : Nat} {l : List Tk} {s : PS} {ov nv av : Value}
theorem Pst0.setOpn {w' : World} {v : Value} {p : Int} (h : Pst0 w B pb A cp l s ov nv av) (h1 : OwnI w' B v (s.opn ++ [p])) (h2 : w.grownBy w' ov.ownBlock) (h3 : v.ownBlock = ov.ownBlock ∨ ∃ g', v.ownBlock = some g' ∧ w.heap.size ≤ g') (hl : s.opn.length < 16777216) :
    Blk w' pb #[.slice A l.length cp, .int .i64 (s.read : Int), ov, nv, av, .int .i64 (s.count : Int)] 151 ∧ Pst0 (w'.setCell ⟨pb, 2, none⟩ v) B pb A cp l { s with opn := s.opn ++ [p] } v nv av := by
  have hn : ∀ k, ov.ownBlock = some k → B ≤ k := fun k hk => (World.ownsRow.lt h.opn k hk).1
  have hp : ov.ownBlock ≠ some pb := fun e => own_typed h.opn h.blk (by decide) pb e rfl
  have hB : Below B w w' := (Below.refl B w).grown h2 (Nat.le_of_lt (Nat.lt_of_le_of_lt h.base h.blk.lt)) hn
  have na : av.ownBlock = none ∨ av.ownBlock ≠ ov.ownBlock := by
    cases hh : av.ownBlock with
    | none => left; rfl
    | some g => right; exact fun e => h.apart g e.symm hh
  have nn : nv.ownBlock = none ∨ nv.ownBlock ≠ ov.ownBlock := by
    rcases h.nodes.2 with ⟨e, _⟩ | ⟨g, c, cur, e, _, hg, _⟩
    · left; rw [e]; rfl
    · right
      rw [e]
      exact fun ee => own_typed h.opn (show Blk w g cur 44 from hg) (by decide) g ee.symm rfl
  have b4 := h.blk.gb hp h2
  have a4 : OwnI w' B av s.ats := World.ownsRow.kept h.ats h2 na
  have n4 : OwnN w' B nv s.nodes := World.ownsRow.kept h.nodes h2 nn
  refine ⟨b4, by simpa using b4.setCell 2 v, own_set h1 (own_typed h1 b4 (by decide)) _, own_set n4 (own_typed n4 b4 (by decide)) _, own_set a4 (own_typed a4 b4 (by decide)) _, fun g hg => ?_,
    (h.row.below h.low hB).below h.low ((Below.refl B w').setCell (p := ⟨pb, 2, none⟩) h.base _), h.low, h.base, h.long, h.rd, h.ct, by simp; omega⟩
  rcases h3 with h3 | ⟨g', h3, hg'⟩
  · rw [h3] at hg; exact h.apart g hg
  · rw [h3] at hg
    intro e
    have := (World.ownsRow.lt h.ats g e).2
    cases hg; omega
theorem Pst0.dropOpn (h : Pst0 w B pb A cp l s ov nv av) (hl : 0 < s.opn.length) : ∃ g c, ov = .slice (some ⟨g, 0, none⟩) s.opn.length c ∧ s.opn.length ≤ c ∧ Pst0 (w.setCell ⟨pb, 2, none⟩ (.slice (some ⟨g, 0, none⟩) (s.opn.length - 1) c)) B pb A cp l { s with opn := s.opn.dropLast } (.slice (some ⟨g, 0, none⟩) (s.opn.length - 1) c) nv av := by
  obtain ⟨g, c, hv, hc, hg, ho⟩ := h.opn.drop hl
  refine ⟨g, c, hv, hc, by simpa using h.blk.setCell 2 (.slice (some ⟨g, 0, none⟩) (s.opn.length - 1) c), own_set ho (own_typed ho h.blk (by decide)) _, own_set h.nodes (own_typed h.nodes h.blk (by decide)) _, own_set h.ats (own_typed h.ats h.blk (by decide)) _, fun k hk => h.apart k (by rw [hv]; exact hk),
    h.row.below h.low ((Below.refl B w).setCell (p := ⟨pb, 2, none⟩) h.base _), h.low, h.base, h.long, h.rd, h.ct, by have := h.op; simp; omega⟩
end
end Go.Proofs.YtcgjmnhmhiddkaaGreatDoor
namespace Go.Proofs.YtcgjmnhmhiddkaaGreatDoor
open Go
set_option linter.unusedVariables false
set_option linter.unusedSimpArgs false
def moreM : Md → Nat
  | .orL _ => 0 | .rowL _ => 0 | .postL _ => 0 | .inside => 0 | _ => 1
def lessM : Md → Nat
  | .inside => 1 | _ => 0
theorem run_count {l : List Tk} : ∀ (n : Nat) (m : Md) (s : PS) (k : Int) (t : PS), run l n m s = .ok k t → t.count + moreM m + 2 * s.read ≤ s.count + 2 * t.read + lessM m
  | 0, _, _, _, _, h => by cases h
  | n + 1, m, s, k, t, h => by
    cases m with
    | or =>
      obtain ⟨a, u, h1, h2⟩ := bind_ok h
      have q1 := run_count n _ _ _ _ h1
      have q2 := run_count n _ _ _ _ h2
      simp only [moreM, lessM] at *; omega
    | orL a =>
      simp only [run] at h
      split at h
      · obtain ⟨b, u, h1, h2⟩ := bind_ok h
        have q1 := run_count n _ _ _ _ h1
        have q2 := run_count n _ _ _ _ h2
        have q3 := lay_read u { kind := 5, a := a, b := b } (-1)
        simp only [moreM, lessM, PS.next] at *; omega
      · cases h; simp only [moreM, lessM]; omega
    | row =>
      obtain ⟨a, u, h1, h2⟩ := bind_ok h
      have q1 := run_count n _ _ _ _ h1
      have q2 := run_count n _ _ _ _ h2
      simp only [moreM, lessM] at *; omega
    | rowL a =>
      simp only [run] at h
      split at h
      · obtain ⟨b, u, h1, h2⟩ := bind_ok h
        have q1 := run_count n _ _ _ _ h1
        have q2 := run_count n _ _ _ _ h2
        have q3 := lay_read u { kind := 4, a := a, b := b } (-1)
        simp only [moreM, lessM] at *; omega
      · cases h; simp only [moreM, lessM]; omega
    | post =>
      obtain ⟨a, u, h1, h2⟩ := bind_ok h
      have q1 := run_count n _ _ _ _ h1
      have q2 := run_count n _ _ _ _ h2
      simp only [moreM, lessM] at *; omega
    | postL a =>
      simp only [run] at h
      split at h
      · have q2 := run_count n _ _ _ _ h
        have q3 := lay_read s { kind := 6, a := a } (tkAt l s.read).at_
        simp only [moreM, lessM, PS.next] at *; omega
      · split at h
        · have q2 := run_count n _ _ _ _ h
          have q3 := lay_read s { kind := 7, a := a, lo := (tkAt l s.read).lo, hi := (tkAt l s.read).hi } (tkAt l s.read).at_
          simp only [moreM, lessM, PS.next] at *; omega
        · cases h; simp only [moreM, lessM]; omega
    | atom =>
      simp only [run] at h
      split at h
      · cases h
        have q3 := lay_read s.next { kind := 2, cls := (tkAt l s.read).cls } (-1)
        simp only [moreM, lessM, PS.next] at *; omega
      · split at h
        · cases h
          have q3 := lay_read s.next { kind := 3, text := (tkAt l s.read).text } (-1)
          simp only [moreM, lessM, PS.next] at *; omega
        · split at h
          · have q := run_count n _ _ _ _ h
            simp only [moreM, lessM] at *; omega
          · split at h
            · obtain ⟨b, u, h1, h2⟩ := bind_ok h
              cases h2
              have q1 := run_count n _ _ _ _ h1
              have q3 := lay_read u { kind := 8, a := b } (-1)
              simp only [moreM, lessM, PS.next] at *; omega
            · split at h
              · obtain ⟨b, u, h1, h2⟩ := bind_ok h
                cases h2
                have q1 := run_count n _ _ _ _ h1
                have q3 := lay_read u { kind := 9, a := b } (-1)
                simp only [moreM, lessM, PS.next] at *; omega
              · exact absurd h fault_not_ok
    | group =>
      simp only [run] at h
      split at h
      · split at h
        · cases h
        · obtain ⟨b, u, h1, h2⟩ := bind_ok h
          split at h2
          · cases h2
            have q1 := run_count n _ _ _ _ h1
            simp only [moreM, lessM, PS.next] at *; omega
          · exact absurd h2 fault_not_ok
      · exact absurd h fault_not_ok
    | inside =>
      simp only [run] at h
      split at h
      · cases h
        have q3 := lay_read s { kind := 1 } (-1)
        simp only [moreM, lessM] at *; omega
      · have q := run_count n _ _ _ _ h
        simp only [moreM, lessM] at *; omega
def Kept (s : PS) : Prop := s.nodes.length = s.ats.length ∧ s.nodes.length ≤ s.count
theorem Kept.lay {s : PS} (h : Kept s) (n : Nd) (p : Int) : Kept (s.lay n p) := by
  unfold Kept at *
  unfold PS.lay
  split
  · simp only [List.length_append, List.length_cons, List.length_nil]; omega
  · simp only; omega
theorem Kept.next {s : PS} (h : Kept s) : Kept s.next := h
theorem run_kept {l : List Tk} : ∀ (n : Nat) (m : Md) (s : PS) (k : Int) (t : PS), run l n m s = .ok k t → Kept s → Kept t
  | 0, _, _, _, _, h, _ => by cases h
  | n + 1, m, s, k, t, h, hk => by
    have two : ∀ {m1 m2 : Md} {s1 u : PS} {a b : Int}, run l n m1 s1 = .ok a u → run l n m2 u = .ok b t → Kept s1 → Kept t := fun h1 h2 k1 => run_kept n _ _ _ _ h2 (run_kept n _ _ _ _ h1 k1)
    have twoL : ∀ {m1 m2 : Md} {s1 u : PS} {a b : Int} (x : Nd) (p : Int), run l n m1 s1 = .ok a u → run l n m2 (u.lay x p) = .ok b t → Kept s1 → Kept t := fun x p h1 h2 k1 => run_kept n _ _ _ _ h2 ((run_kept n _ _ _ _ h1 k1).lay x p)
    cases m with
    | or => obtain ⟨a, u, h1, h2⟩ := bind_ok h; exact two h1 h2 hk
    | orL a =>
      simp only [run] at h
      split at h
      · obtain ⟨b, u, h1, h2⟩ := bind_ok h; exact twoL _ _ h1 h2 hk.next
      · cases h; exact hk
    | row => obtain ⟨a, u, h1, h2⟩ := bind_ok h; exact two h1 h2 hk
    | rowL a =>
      simp only [run] at h
      split at h
      · obtain ⟨b, u, h1, h2⟩ := bind_ok h; exact twoL _ _ h1 h2 hk
      · cases h; exact hk
    | post => obtain ⟨a, u, h1, h2⟩ := bind_ok h; exact two h1 h2 hk
    | postL a =>
      simp only [run] at h
      split at h
      · exact run_kept n _ _ _ _ h (hk.lay _ _).next
      · split at h
        · exact run_kept n _ _ _ _ h (hk.lay _ _).next
        · cases h; exact hk
    | atom =>
      simp only [run] at h
      split at h
      · cases h; exact hk.next.lay _ _
      · split at h
        · cases h; exact hk.next.lay _ _
        · split at h
          · exact run_kept n _ _ _ _ h hk
          · split at h
            · obtain ⟨b, u, h1, h2⟩ := bind_ok h; cases h2; exact (run_kept n _ _ _ _ h1 hk.next).lay _ _
            · split at h
              · obtain ⟨b, u, h1, h2⟩ := bind_ok h; cases h2; exact (run_kept n _ _ _ _ h1 hk.next).lay _ _
              · exact absurd h fault_not_ok
    | group =>
      simp only [run] at h
      split at h
      · split at h
        · cases h
        · obtain ⟨b, u, h1, h2⟩ := bind_ok h
          split at h2
          · cases h2
            have q : Kept u := run_kept n _ _ _ _ h1 hk
            exact q
          · exact absurd h2 fault_not_ok
      · exact absurd h fault_not_ok
    | inside =>
      simp only [run] at h
      split at h
      · cases h; exact hk.lay _ _
      · exact run_kept n _ _ _ _ h hk
end Go.Proofs.YtcgjmnhmhiddkaaGreatDoor
namespace Go.Proofs.YtcgjmnhmhiddkaaGreatDoor
open Go Go.RowKit
set_option linter.unusedVariables false
set_option linter.unusedSimpArgs false
theorem field_tok0 (k a lo hi : Int) (c0 c1 c2 c3 : Int) (b : ByteArray) (w : World) : (Instr.field 76 (.agg #[.int .i64 k, .int .i64 a, .int .u64 c0, .int .u64 c1, .int .u64 c2, .int .u64 c3, .string b, .int .i64 lo, .int .i64 hi]) 0).run Tryz.prog w = .ok (.int .i64 k) w := by kernel_rfl
theorem field_tok1 (k a lo hi : Int) (c0 c1 c2 c3 : Int) (b : ByteArray) (w : World) : (Instr.field 76 (.agg #[.int .i64 k, .int .i64 a, .int .u64 c0, .int .u64 c1, .int .u64 c2, .int .u64 c3, .string b, .int .i64 lo, .int .i64 hi]) 1).run Tryz.prog w = .ok (.int .i64 a) w := by kernel_rfl
def KeptO (s : PS) : Prop := Kept s ∧ s.opn.length ≤ 64
def Inv (s : PS) : Prop := s.count ≤ 2 * s.read ∧ KeptO s
theorem Inv.next {s : PS} (h : Inv s) : Inv s.next := ⟨by have := h.1; simp only [PS.next]; omega, h.2⟩
theorem run_inv {l : List Tk} {n : Nat} {m : Md} {s t : PS} {k : Int} (h : run l n m s = .ok k t) (hi : Inv s) : t.count + moreM m ≤ 2 * t.read + lessM m ∧ KeptO t := by
  have q := run_count n m s k t h
  have := hi.1
  exact ⟨by omega, run_kept n m s k t h hi.2.1, by rw [(run_read n m s k t h).2.1]; exact hi.2.2⟩
theorem Inv.lay1 {s : PS} (h : s.count + 1 ≤ 2 * s.read) (hk : KeptO s) (n : Nd) (p : Int) : Inv (s.lay n p) := by
  have q := lay_read s n p
  exact ⟨by omega, hk.1.lay n p, by rw [q.2.1]; exact hk.2⟩
theorem Inv.lay2 {s : PS} (h : Inv s) (n : Nd) (p : Int) : Inv (s.lay n p).next := by
  have q := lay_read s n p
  have := h.1
  exact ⟨by simp only [PS.next]; omega, h.2.1.lay n p, by simp only [PS.next]; rw [q.2.1]; exact h.2.2⟩
def CallM (f : FuncId) (l : List Tk) (s : PS) (r : PR) : Prop := ∀ w B pb A cp, Pst w B pb A cp l s → Calls Tryz.prog f #[.pointer (some ⟨pb, 0, none⟩)] w (RunPost B pb A cp l w r)
def fnM : Md → Option FuncId
  | .or => some 117
  | .row => some 138
  | .post => some 154
  | .atom => some 166
  | .group => some 176
  | .inside => some 183
  | _ => none
def RunC (l : List Tk) (n : Nat) : Prop := ∀ (m : Md) (f : FuncId) (s : PS), fnM m = some f → Inv s → run l n m s ≠ .out → CallM f l s (run l n m s)
section
variable {w : World} {B pb : Nat} {A : Option Addr} {cp : Nat} {l : List Tk} {s : PS} {ov nv av : Value}
theorem Pst.lay (hP : Pst w B pb A cp l s) (hc : s.count ≤ 2 * s.read + 2) (hk : KeptO s) (n : Nd) (p : Int) :
    Calls Tryz.prog 140 #[.pointer (some ⟨pb, 0, none⟩), .agg (ndC n), .int .i64 p] w (RunPost B pb A cp l w (layK s n p)) := by
  obtain ⟨ov, nv, av, h⟩ := hP
  have hr := h.rd
  have h1 := hk.1.1
  have h2 := hk.1.2
  exact lay_any h n p (by omega) (by omega) (by omega)
theorem Pst.later {w' : World} (h : Pst w B pb A cp l s) (hb : Below w.heap.size w w') : Pst w' B pb A cp l s := by
  obtain ⟨ov, nv, av, h⟩ := h
  exact ⟨ov, nv, av, h.later hb⟩
theorem Pst.token (h : Pst w B pb A cp l s) : Calls Tryz.prog 139 #[.pointer (some ⟨pb, 0, none⟩)] w (Ans w (.agg (tkC (tkAt l s.read)))) := by
  obtain ⟨ov, nv, av, h⟩ := h
  exact h.token
theorem Pst.long (h : Pst w B pb A cp l s) : l.length ≤ 16777216 := by obtain ⟨ov, nv, av, h⟩ := h; exact h.long
theorem Pst.base (h : Pst w B pb A cp l s) : B ≤ pb ∧ pb < w.heap.size := by obtain ⟨ov, nv, av, h⟩ := h; exact ⟨h.base, h.blk.lt⟩
theorem Pst.heap (h : Pst w B pb A cp l s) : B ≤ w.heap.size := by have := h.base; omega
theorem Pst.next (h : Pst w B pb A cp l s) (hr : s.read < 16777216) : Pst (w.setCell ⟨pb, 1, none⟩ (.int .i64 ((s.read : Int) + 1))) B pb A cp l s.next := by
  obtain ⟨ov, nv, av, h⟩ := h
  exact ⟨ov, nv, av, h.next hr⟩
theorem Pst.cell1 (h : Pst w B pb A cp l s) : w.cell? ⟨pb, 1, none⟩ = some (.int .i64 (s.read : Int)) := by
  obtain ⟨ov, nv, av, h⟩ := h
  have := h.blk.cell 1
  simpa using this
theorem Pst.frozen (h : Pst w B pb A cp l s) (o : Nat) : w.frozen? ⟨pb, o, none⟩ = false := by
  obtain ⟨ov, nv, av, h⟩ := h
  exact h.blk.frozen o
end
def rdOf (w : World) (pb : Nat) : Nat := match w.cell? ⟨pb, 1, none⟩ with
  | some v => (intOf v).toNat
  | none => 0
theorem Pst.rdOf {w : World} {B pb : Nat} {A : Option Addr} {cp : Nat} {l : List Tk} {s : PS} (h : Pst w B pb A cp l s) : rdOf w pb = s.read := by
  unfold Go.Proofs.YtcgjmnhmhiddkaaGreatDoor.rdOf
  rw [h.cell1]
  simp [intOf]
end Go.Proofs.YtcgjmnhmhiddkaaGreatDoor
