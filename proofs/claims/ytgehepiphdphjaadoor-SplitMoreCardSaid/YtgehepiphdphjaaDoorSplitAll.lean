/- splitAll of package split: each class of a row that the other one splits is cut in two, within the row's own memory. -/
import Derived.Test.YtgehepiphdphjaaDoorSplitRows
namespace Go.Proofs.YtgehepiphdphjaaDoor
open Go Go.RowKit
set_option linter.unusedVariables false

/-- The first k cut. -/
def splitN (l : List (BitVec 256)) (a : BitVec 256) (k : Nat) : List (BitVec 256) :=
  ((l.take k).map fun p => if splits a p then p &&& a else p) ++ l.drop k ++ (((l.take k).filter (splits a)).map fun p => p &&& ~~~a)
theorem splitN_zero (l : List (BitVec 256)) (a : BitVec 256) : splitN l a 0 = l := by unfold splitN; simp
theorem splitN_all (l : List (BitVec 256)) (a : BitVec 256) : splitN l a l.length = splitL l a := by unfold splitN splitL; simp
theorem set_mid {α : Type} (X D E : List α) (x y : α) : (X ++ x :: D ++ E).set X.length y = X ++ y :: D ++ E := by
  rw [List.append_assoc, List.set_append_right _ _ (Nat.le_refl _), Nat.sub_self]
  simp
theorem splitN_yes {l : List (BitVec 256)} {a : BitVec 256} {k : Nat} (hk : k < l.length) (h : splits a (l.getD k 0) = true) :
    splitN l a (k + 1) = (splitN l a k).set k (l.getD k 0 &&& a) ++ [l.getD k 0 &&& ~~~a] := by
  have hg : l.getD k 0 = l[k] := by simp [hk]
  unfold splitN
  rw [List.take_succ_eq_append_getElem hk, List.drop_eq_getElem_cons hk, ← hg]
  rw [List.map_append, List.filter_append, List.map_append]
  have hx : ((l.take k).map fun p => if splits a p then p &&& a else p).length = k := by simp; omega
  have e := set_mid ((l.take k).map fun p => if splits a p then p &&& a else p) (l.drop (k + 1)) (((l.take k).filter (splits a)).map fun p => p &&& ~~~a) (l.getD k 0) (l.getD k 0 &&& a)
  rw [hx] at e
  rw [e]
  generalize l.getD k 0 = p at *
  simp [h]
theorem splitN_no {l : List (BitVec 256)} {a : BitVec 256} {k : Nat} (hk : k < l.length) (h : splits a (l.getD k 0) = false) : splitN l a (k + 1) = splitN l a k := by
  have hg : l.getD k 0 = l[k] := by simp [hk]
  unfold splitN
  rw [List.take_succ_eq_append_getElem hk, List.drop_eq_getElem_cons hk, ← hg, List.map_append, List.filter_append]
  generalize l.getD k 0 = p at *
  simp [h]
theorem splitN_len (l : List (BitVec 256)) (a : BitVec 256) (k : Nat) (hk : k ≤ l.length) : l.length ≤ (splitN l a k).length ∧ (splitN l a k).length ≤ 2 * l.length := by
  unfold splitN
  simp only [List.length_append, List.length_map, List.length_drop, List.length_take]
  have := List.length_filter_le (splits a) (l.take k)
  rw [List.length_take] at this
  omega

/-- On the way: from k on the old row stands as it was; 'cur' is the row by now. -/
structure SplitR (base g : Nat) (l : List (BitVec 256)) (a : BitVec 256) (w0 : World) (k : Nat) (cur : List (BitVec 256)) (v : Value) (w : World) : Prop where
  own : OwnC w base v cur
  place : v.ownBlock = some g ∨ ∃ g', v.ownBlock = some g' ∧ w0.heap.size < g'
  old : ∀ x, k ≤ x → x < l.length → ∀ j, j < 4 → w.cell? ⟨g, x * 4 + j, none⟩ = some (.int .u64 (wd (l.getD x 0) j))
  same : v.ownBlock = some g → ∀ x, k ≤ x → x < l.length → cur.getD x 0 = l.getD x 0
  below : Below base w0 w
  box : Blk w w0.heap.size (cells4 a) 29
section
variable {base g : Nat} {l cur : List (BitVec 256)} {a : BitVec 256} {w0 : World} {k : Nat} {v : Value} {w w' : World}
theorem SplitR.later (h : SplitR base g l a w0 k cur v w) (hg : g < w0.heap.size) (hbase : base ≤ w0.heap.size) (hb : Below w.heap.size w w') : SplitR base g l a w0 k cur v w' :=
  have hs := h.below.size
  ⟨h.own.later hb, h.place, fun x h1 h2 j hj => (hb.cell (p := ⟨g, x * 4 + j, none⟩) (show g < w.heap.size by omega)).trans (h.old x h1 h2 j hj), h.same, h.below.trans (hb.mono (by omega)), h.box.later hb⟩
theorem SplitR.next (h : SplitR base g l a w0 k cur v w) : SplitR base g l a w0 (k + 1) cur v w :=
  ⟨h.own, h.place, fun x h1 h2 => h.old x (by omega) h2, fun hv x h1 h2 => h.same hv x (by omega) h2, h.below, h.box⟩
/-- Behind the store. -/
theorem SplitR.set {gc cap : Nat} (h : SplitR base g l a w0 k cur (.slice (some ⟨gc, 0, none⟩) cur.length cap) w) (hk : k < cur.length) (hlen : l.length ≤ cur.length) (t : BitVec 256) (hbg : base ≤ gc) (hg : g < w0.heap.size) :
    SplitR base g l a w0 (k + 1) (cur.set k t) (.slice (some ⟨gc, 0, none⟩) cur.length cap) (putAt w gc (k * 4) t) := by
  have hp := But.putAt gc w (k * 4) t
  have hne : w0.heap.size ≠ gc := by
    rcases h.place with e | ⟨g', e, hl⟩
    · simp only [Value.ownBlock, Option.some.injEq] at e; omega
    · simp only [Value.ownBlock, Option.some.injEq] at e; omega
  have hrow : CRow w gc cur.length (fun i => cur.getD i 0) := by
    rcases h.own.cases with ⟨e, _⟩ | ⟨g', c', e, _, h3⟩
    · cases e
    · cases e; exact h3
  have hl : gc < w.heap.size := hrow.lt
  have hsame : ∀ (c : Nat) (o : Nat), c ≠ gc → c < w.heap.size → (putAt w gc (k * 4) t).cell? ⟨c, o, none⟩ = w.cell? ⟨c, o, none⟩ := fun c o hc hl2 => World.cell?_of_block (w := w) (a := ⟨c, o, none⟩) (hp.block c hl2 hc)
  refine ⟨h.own.putAt k hk t, h.place, fun x h1 h2 j hj => ?_, fun hv x h1 h2 => ?_, h.below.trans (hp.below hbg (Nat.le_of_lt hl)), ?_⟩
  · by_cases e : g = gc
    · subst e
      have hx := h.same rfl x (by omega) h2
      have hxc : x < cur.length := by omega
      have := (hrow.putAt k hk t).cell x hxc j hj
      rw [if_neg (by omega), hx] at this
      exact this
    · rw [hsame g _ e (Nat.lt_of_lt_of_le hg h.below.size)]; exact h.old x (by omega) h2 j hj
  · rw [← h.same hv x (by omega) h2]
    simp [show k ≠ x by omega]
  · exact (hp.block _ (Nat.lt_of_lt_of_le h.box.lt (Nat.le_refl _)) hne).trans h.box
/-- Behind the append. -/
theorem SplitR.app {t : BitVec 256} {v' : Value} (h : SplitR base g l a w0 k cur v w) (hg : g < w0.heap.size) (hbg : ∀ g', v.ownBlock = some g' → base ≤ g') (hbase : base ≤ w0.heap.size) (hlen : l.length ≤ cur.length)
    (ho : OwnC w' base v' (cur ++ [t])) (hgr : w.grownBy w' v.ownBlock) (keep : ∀ g, v.ownBlock = some g → ∀ i, i < cur.length → ∀ j, j < 4 → w'.cell? ⟨g, i * 4 + j, none⟩ = some (.int .u64 (wd (cur.getD i 0) j)))
    (place : v'.ownBlock = v.ownBlock ∨ ∃ g', v'.ownBlock = some g' ∧ w.heap.size ≤ g') : SplitR base g l a w0 k (cur ++ [t]) v' w' := by
  have hs := h.below.size
  have hbl := h.box.lt
  refine ⟨ho, ?_, fun x h1 h2 j hj => ?_, fun hv x h1 h2 => ?_, ?_, ?_⟩
  · rcases place with e | ⟨g', e, h2⟩
    · rw [e]; exact h.place
    · exact .inr ⟨g', e, by omega⟩
  · by_cases e : v.ownBlock = some g
    · rw [keep g e x (by omega) j hj, h.same e x h1 h2]
    · have := World.cell?_of_block (w := w) (w' := w') (a := ⟨g, x * 4 + j, none⟩) (hgr.block g (by omega) (fun q => e q.symm))
      rw [this]; exact h.old x h1 h2 j hj
  · rcases place with e | ⟨g', e, h3⟩
    · have := h.same (by rw [← e]; exact hv) x h1 h2
      rw [← this]
      simp [List.getElem?_append_left (show x < cur.length by omega)]
    · rw [e] at hv; cases hv; omega
  · exact h.below.grown hgr (by omega) (fun k hk => hbg k hk)
  · refine (hgr.block _ hbl ?_).trans h.box
    rcases h.place with e | ⟨g', e, hl⟩
    · rw [e]; intro q; cases q; omega
    · rw [e]; intro q; cases q; omega
end

def SplitL (base g : Nat) (l : List (BitVec 256)) (a : BitVec 256) (w0 : World) (v i : Value) (w : World) : Prop := ∃ k, k ≤ l.length ∧ i = .int .i64 k ∧ SplitR base g l a w0 k (splitN l a k) v w

/-- With the boxes of the round. -/
structure SplitS (base g : Nat) (l : List (BitVec 256)) (a : BitVec 256) (w0 : World) (k : Nat) (cur : List (BitVec 256)) (v : Value) (bp : Nat) (p : BitVec 256) (bi : Nat) (x : BitVec 256) (w : World) : Prop where
  r : SplitR base g l a w0 k cur v w
  pbox : Blk w bp (cells4 p) 29
  ibox : Blk w bi (cells4 x) 29
  hg : g < w0.heap.size
  hbase : base ≤ w0.heap.size
theorem SplitS.later {base g : Nat} {l cur : List (BitVec 256)} {a p x : BitVec 256} {w0 : World} {k bp bi : Nat} {v : Value} {w w' : World} (h : SplitS base g l a w0 k cur v bp p bi x w) (hb : Below w.heap.size w w') : SplitS base g l a w0 k cur v bp p bi x w' :=
  ⟨h.r.later h.hg h.hbase hb, h.pbox.later hb, h.ibox.later hb, h.hg, h.hbase⟩
def NewC (t : BitVec 256) (v : Value) (w : World) : Prop := ∃ b, v = .slice (some ⟨b, 0, none⟩) 1 1 ∧ Blk w b (cells4 t) 29
theorem NewC.later (t : BitVec 256) (v : Value) (w w' : World) (h : NewC t v w) (hb : Below w.heap.size w w') : NewC t v w' := by
  obtain ⟨b, hv, hk⟩ := h
  exact ⟨b, hv, hk.later hb⟩
theorem NewC.new (t : BitVec 256) (w : World) : NewC t (.slice (some ⟨w.heap.size, 0, none⟩) 1 1) (w.alloc (.cells (cells4 t) 29)) := ⟨_, rfl, Blk.new _ _ _⟩

set_option maxRecDepth 1000000 in
set_option maxHeartbeats 16000000 in
theorem splitall_any (base g cap : Nat) (l : List (BitVec 256)) (a : BitVec 256) (w : World) (hown : OwnC w base (.slice (some ⟨g, 0, none⟩) l.length cap) l) (hlen : l.length ≤ 256) (hbase : base ≤ w.heap.size) :
    Calls Tryd.prog 40 #[.slice (some ⟨g, 0, none⟩) l.length cap, cls a] w fun e w' => ∃ v', e = .returned v' ∧ OwnC w' base v' (splitL l a) ∧ Below base w w' := by
  have hg : g < w.heap.size ∧ base ≤ g := by
    rcases hown.cases with ⟨h, _⟩ | ⟨g', cap', h, h2, h3⟩
    · cases h
    · cases h; exact ⟨h3.lt, h2⟩
  have hrow : CRow w g l.length (fun i => l.getD i 0) := by
    rcases hown.cases with ⟨h, _⟩ | ⟨g', cap', h, h2, h3⟩
    · cases h
    · cases h; exact h3
  have HR : Hid (SplitR base g l a w 0 (splitN l a 0) (.slice (some ⟨g, 0, none⟩) l.length cap) (w.alloc (.cells (cells4 a) 29))) := by
    have hb : Below w.heap.size w (w.alloc (.cells (cells4 a) 29)) := (Below.refl _ _).alloc (Nat.le_refl _) _
    have hr2 := hrow.later hb
    exact ⟨by rw [splitN_zero]; exact hown.later hb, .inl rfl, fun x _ hx j hj => hr2.cell x hx j hj, fun _ x _ _ => by rw [splitN_zero], hb.mono hbase, Blk.new _ _ _⟩
  have hneq := neq_cls
  have hg2 := eqGuard_neq
  clear hrow hown
  unfold cls
  go_enter Tryd.func40, Tryd.ntmps40
  go_wp2
  go_loopw [0, 10] (SplitL base g l a w) (fun _ i _ => l.length - (intOf i).toNat)
  case atStart => exact ⟨0, Nat.zero_le _, rfl, HR.out⟩
  case round =>
    obtain ⟨k, hk, rfl, hR⟩ := hrel
    have hcl := splitN_len l a k hk
    by_cases hlt : k < l.length
    · have hltz : (k : Int) < (l.length : Int) := by omega
      have c1 := hR.old k (Nat.le_refl _) hlt
      have d0 := c1 0 (by omega)
      have d1 := c1 1 (by omega)
      have d2 := c1 2 (by omega)
      have d3 := c1 3 (by omega)
      simp only [Nat.add_zero] at d0
      have b1 := hR.box.cells
      have n1 := hR.box.lt
      have HRR := Lib.hid hR
      have hgl : ∀ gc, u0.ownBlock = some gc → gc < wr.heap.size := fun gc h => (World.ownsRow.lt hR.own gc h).2
      have HGL := Lib.hid hgl
      clear c1 hR HR hgl
      have HY : Hid (splits a (l.getD k 0) = true → splitN l a (k + 1) = (splitN l a k).set k (l.getD k 0 &&& a) ++ [l.getD k 0 &&& ~~~a]) := fun h => splitN_yes hlt h
      have HN : Hid (splits a (l.getD k 0) = false → splitN l a (k + 1) = splitN l a k) := fun h => splitN_no hlt h
      generalize l.getD k 0 = p at *
      cases hz0 : (p &&& a == 0#256) with
      | true =>
        have hsp : splits a p = false := by unfold splits; rw [beq_iff_eq] at hz0; simp [hz0]
        have HSP := Lib.hid (HN.out hsp)
        clear hsp
        go_wp2_with fail
        refine (both_any p a _).mono ?_; rintro e w2 ⟨rfl, hb2⟩
        have hR2 := (HRR.out.later hg.1 hbase ((Below.refl _ _).alloc (Nat.le_refl _) (.cells (cells4 p) 29))).later hg.1 hbase hb2
        have hP2 := (Blk.new wr (cells4 p) 29).later hb2
        have hW2 : wr.heap.size < w2.heap.size := hP2.lt
        have HS : Hid (SplitS base g l a w k (splitN l a k) u0 wr.heap.size p w2.heap.size (p &&& a) (w2.alloc (.cells (cells4 (p &&& a)) 29))) :=
          ⟨hR2.later hg.1 hbase ((Below.refl _ _).alloc (Nat.le_refl _) _), hP2.alloc _, Blk.new _ _ _, hg.1, hbase⟩
        clear hR2 hP2 hb2 d0 d1 d2 d3 b1 HRR
        generalize hx : p &&& a = x at *
        have HX := Lib.hid hx
        clear hx
        unfold cls
        go_upto_region 5 with (fail)
        refine wp_region_stable (S := (SplitS base g l a w k (splitN l a k) u0 wr.heap.size p w2.heap.size x)) (hSt := fun _ _ h hb => h.later hb) (plan := [[(7, none)], [], [(18, some 0), (19, some 1)], [(20, some 2)], [(7, none)], [(6, none)], [(22, some 4), (23, some 5)], [(21, some 3), (24, some 6)]]) (by kernel_rfl) (by kernel_rfl) (by kernel_rfl) ?hS ?_
        rotate_left
        iterate 8 first
          | (refine chain_skip (by rfl) (by rfl) ?_)
          | (apply chain_want (by rfl)
             · intro act wx hS hr
               simp at hr
               have h1 := hS.pbox.cells
               have h2 := hS.ibox.cells
               go_simp
               (try go_ints)
               first
                 | exact Done.same (v := cls _)
                 | (rw [lit0]; exact Done.same)
                 | exact Done.same
            )
        show ∀ w', _ → _
        intro wz hz
        simp [Act.put]
        case hS => exact HS.out
        clear HS
        clear hneq hg2
        go_wp2
        go_roundw
        case rel => exact ⟨k + 1, by omega, by go_num, by rw [HSP.out]; exact hz.r.next⟩
        case measure => simp [intOf]; omega
      | false =>
        cases hz1 : (p &&& a == p) with
        | true =>
          have hsp : splits a p = false := by unfold splits; rw [beq_iff_eq] at hz1; simp [hz1]
          have HSP := Lib.hid (HN.out hsp)
          clear hsp
          go_wp2_with fail
          refine (both_any p a _).mono ?_; rintro e w2 ⟨rfl, hb2⟩
          have hR2 := (HRR.out.later hg.1 hbase ((Below.refl _ _).alloc (Nat.le_refl _) (.cells (cells4 p) 29))).later hg.1 hbase hb2
          have hP2 := (Blk.new wr (cells4 p) 29).later hb2
          have hW2 : wr.heap.size < w2.heap.size := hP2.lt
          have HS : Hid (SplitS base g l a w k (splitN l a k) u0 wr.heap.size p w2.heap.size (p &&& a) (w2.alloc (.cells (cells4 (p &&& a)) 29))) :=
            ⟨hR2.later hg.1 hbase ((Below.refl _ _).alloc (Nat.le_refl _) _), hP2.alloc _, Blk.new _ _ _, hg.1, hbase⟩
          clear hR2 hP2 hb2 d0 d1 d2 d3 b1 HRR
          generalize hx : p &&& a = x at *
          have HX := Lib.hid hx
          clear hx
          unfold cls
          go_upto_region 5 with (fail)
          refine wp_region_stable (S := (SplitS base g l a w k (splitN l a k) u0 wr.heap.size p w2.heap.size x)) (hSt := fun _ _ h hb => h.later hb) (plan := [[(7, none)], [], [(18, some 0), (19, some 1)], [(20, some 2)], [(7, none)], [(6, none)], [(22, some 4), (23, some 5)], [(21, some 3), (24, some 6)]]) (by kernel_rfl) (by kernel_rfl) (by kernel_rfl) ?hS ?_
          rotate_left
          iterate 8 first
            | (refine chain_skip (by rfl) (by rfl) ?_)
            | (apply chain_want (by rfl)
               · intro act wx hS hr
                 simp at hr
                 have h1 := hS.pbox.cells
                 have h2 := hS.ibox.cells
                 go_simp
                 (try go_ints)
                 first
                   | exact Done.same (v := cls _)
                   | (rw [lit0]; exact Done.same)
                   | exact Done.same
              )
          show ∀ w', _ → _
          intro wz hz
          simp [Act.put]
          case hS => exact HS.out
          clear HS
          clear hneq hg2
          go_wp2
          go_roundw
          case rel => exact ⟨k + 1, by omega, by go_num, by rw [HSP.out]; exact hz.r.next⟩
          case measure => simp [intOf]; omega
        | false =>
          have hsp : splits a p = true := by
            rw [beq_eq_false_iff_ne] at hz0 hz1
            unfold splits; simp [hz0, hz1]
          have HSP := Lib.hid (HY.out hsp)
          clear hsp
          go_wp2_with fail
          refine (both_any p a _).mono ?_; rintro e w2 ⟨rfl, hb2⟩
          have hR2 := (HRR.out.later hg.1 hbase ((Below.refl _ _).alloc (Nat.le_refl _) (.cells (cells4 p) 29))).later hg.1 hbase hb2
          have hP2 := (Blk.new wr (cells4 p) 29).later hb2
          have hW2 : wr.heap.size < w2.heap.size := hP2.lt
          have HS : Hid (SplitS base g l a w k (splitN l a k) u0 wr.heap.size p w2.heap.size (p &&& a) (w2.alloc (.cells (cells4 (p &&& a)) 29))) :=
            ⟨hR2.later hg.1 hbase ((Below.refl _ _).alloc (Nat.le_refl _) _), hP2.alloc _, Blk.new _ _ _, hg.1, hbase⟩
          clear hR2 hP2 hb2 d0 d1 d2 d3 b1 HRR
          generalize hx : p &&& a = x at *
          have HX := Lib.hid hx
          clear hx
          unfold cls
          go_upto_region 5 with (fail)
          refine wp_region_stable (S := (SplitS base g l a w k (splitN l a k) u0 wr.heap.size p w2.heap.size x)) (hSt := fun _ _ h hb => h.later hb) (plan := [[(7, none)], [], [(18, some 0), (19, some 1)], [(20, some 2)], [(7, none)], [(6, none)], [(22, some 4), (23, some 5)], [(21, some 3), (24, some 6)]]) (by kernel_rfl) (by kernel_rfl) (by kernel_rfl) ?hS ?_
          rotate_left
          iterate 8 first
            | (refine chain_skip (by rfl) (by rfl) ?_)
            | (apply chain_want (by rfl)
               · intro act wx hS hr
                 simp at hr
                 have h1 := hS.pbox.cells
                 have h2 := hS.ibox.cells
                 go_simp
                 (try go_ints)
                 first
                   | exact Done.same (v := cls _)
                   | (rw [lit0]; exact Done.same)
                   | exact Done.same
              )
          show ∀ w', _ → _
          intro wz hz
          simp [Act.put]
          case hS => exact HS.out
          clear HS
          clear hneq hg2
          obtain ⟨gc, cap2, hv, hbg, hrc⟩ : ∃ gc cap2, u0 = .slice (some ⟨gc, 0, none⟩) (splitN l a k).length cap2 ∧ base ≤ gc ∧ CRow wz gc (splitN l a k).length (fun i => (splitN l a k).getD i 0) := by
            rcases hz.r.own.cases with ⟨_, h⟩ | h
            · rw [h] at hcl
              have h1 : l.length ≤ 0 := hcl.1
              omega
            · exact h
          subst hv
          have hb3 := (hz.r.set (by omega) hcl.1 x hbg hg.1)
          have hput := But.putAt gc wz (k * 4) x
          have hgl := HGL.out gc rfl
          have HS3 : Hid (SplitS base g l a w (k + 1) ((splitN l a k).set k x) (.slice (some ⟨gc, 0, none⟩) (splitN l a k).length cap2) wr.heap.size p w2.heap.size x (putAt wz gc (k * 4) x)) :=
            ⟨hb3, (hput.block _ hz.pbox.lt (by omega)).trans hz.pbox, (hput.block _ hz.ibox.lt (by omega)).trans hz.ibox, hg.1, hbase⟩
          have i1 := hz.ibox.cells
          generalize splitN l a k = cur at *
          have hkc : k < cur.length := by omega
          have hkz : (k : Int) < (cur.length : Int) := by omega
          have r1 := hrc.cells k hkc
          have fr := hrc.fro
          have HSZ : Hid (base ≤ (putAt wz gc (k * 4) x).heap.size) := by
            have h1 := hput.size
            have h2 := hz.r.below.size
            unfold Hid; omega
          clear hz hb3 hput hrc
          go_upto_region 7 with (fail)
          clear i1 r1 fr
          refine wp_region_stable_two (S := (SplitS base g l a w (k + 1) (cur.set k x) (.slice (some ⟨gc, 0, none⟩) cur.length cap2) wr.heap.size p w2.heap.size x)) (hSt := fun _ _ h hb => h.later hb) (plan := [[(0, none)], [(6, none)], [(3, none)], [(32, some 2)], [(31, some 1), (33, some 3)], [(34, some 4)]]) rfl rfl (by kernel_rfl) (by kernel_rfl) (by kernel_rfl) (by kernel_rfl) ?hS ?_
          rotate_left
          simp only [List.dropLast]
          iterate 5 first
            | (refine chain_skip (by rfl) (by rfl) ?_)
            | (apply chain_want (by rfl)
               · intro act wx hS hr
                 simp at hr
                 have h1 := hS.pbox.cells
                 have h2 := hS.r.box.cells
                 go_simp
                 (try go_ints)
                 first
                   | exact Done.same (v := cls _)
                   | ((with_reducible refine (not_any _ _).mono ?_); rintro e w' ⟨rfl, hb⟩; exact Done.mk hb)
                   | ((with_reducible refine (both_any _ _ _).mono ?_); rintro e w' ⟨rfl, hb⟩; exact Done.mk hb)
                   | exact Done.same
              )
          (refine chain_rel (NewC (p &&& ~~~a)) (NewC.later _) (by rfl) ?_ ?_
           · intro act wx hS hr
             simp at hr
             have h1 := hS.pbox.cells
             have h2 := hS.r.box.cells
             all_goals go_simp
             exact Done.rel ((Below.refl _ _).alloc (Nat.le_refl _) _) (NewC.new _ _)
          )
          show ∀ w', _ → _
          intro wz hz
          simp [Act.put]
          case hS => exact HS3.out
          intro v hv
          obtain ⟨bn, rfl, hbk⟩ := hv
          have hszz : base ≤ wz.heap.size := by have := hz.r.below.size; omega
          refine wp_append_cls _ _ rfl base (.slice (some ⟨gc, 0, none⟩) cur.length cap2) (cur.set k x) rfl hz.r.own bn (p &&& ~~~a) rfl hbk (by rw [List.length_set]; omega) hszz ?_
          intro v' w' h1 h2 h3 h4
          have HF := Lib.hid (hz.r.app hg.1 (fun g' h => (World.ownsRow.lt hz.r.own g' h).1) hbase (by rw [List.length_set]; omega) h1 h2 h3 h4)
          clear h1 h2 h3 h4 hz
          go_simp
          go_wp2
          go_roundw
          case rel => exact ⟨k + 1, by omega, by go_num, by rw [HSP.out]; exact HF.out⟩
          case measure => simp [intOf]; omega
    · obtain rfl : k = l.length := by omega
      have HRR := Lib.hid hR
      clear hR
      go_wp2
      go_returns
      exact ⟨_, rfl, by rw [← splitN_all]; exact HRR.out.own, HRR.out.below⟩
end Go.Proofs.YtgehepiphdphjaaDoor
