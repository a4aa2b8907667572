/- Refine of package split: of each class what it shares with the other one, and what it doesn't, by least bytes. -/
import Derived.Test.YtgehepiphdphjaaDoorSplitHeads
namespace Go.Proofs.YtgehepiphdphjaaDoor
open Go Go.RowKit
set_option linter.unusedVariables false

/-- What a class is cut into, but what has no bytes. -/
def piecesL (P : List (BitVec 256)) (a : BitVec 256) : List (BitVec 256) := P.flatMap fun p => [p &&& a, p &&& ~~~a].filter fun x => !(x == 0#256)
def refineL (P : List (BitVec 256)) (a : BitVec 256) : List (BitVec 256) := bucket lstB 256 (piecesL P a)
theorem pieces_snoc (P : List (BitVec 256)) (p a : BitVec 256) : piecesL (P ++ [p]) a = piecesL P a ++ [p &&& a, p &&& ~~~a].filter fun x => !(x == 0#256) := by
  unfold piecesL; rw [List.flatMap_append]; simp
theorem pieces_len (a : BitVec 256) : ∀ P, (piecesL P a).length ≤ 2 * P.length
  | [] => by simp [piecesL]
  | p :: P => by
    have ih := pieces_len a P
    unfold piecesL at ih ⊢
    rw [List.flatMap_cons, List.length_append, List.length_cons]
    have := List.length_filter_le (fun x : BitVec 256 => !(x == 0#256)) [p &&& a, p &&& ~~~a]
    simp only [List.length_cons, List.length_nil] at this
    omega
theorem refine_length (P : List (BitVec 256)) (a : BitVec 256) : (refineL P a).length = (piecesL P a).length := length_bucket _ _ _ fun x _ => lstB_lt x

def cells8 (x y : BitVec 256) : Array Value := #[.int .u64 (wd x 0), .int .u64 (wd x 1), .int .u64 (wd x 2), .int .u64 (wd x 3), .int .u64 (wd y 0), .int .u64 (wd y 1), .int .u64 (wd y 2), .int .u64 (wd y 3)]
/-- Two classes in a new row. -/
def New2 (lo : Nat) (x y : BitVec 256) (v : Value) (w : World) : Prop := ∃ b, v = .slice (some ⟨b, 0, none⟩) 2 2 ∧ lo ≤ b ∧ Blk w b (cells8 x y) 29
theorem New2.later (lo : Nat) (x y : BitVec 256) (v : Value) (w w' : World) (h : New2 lo x y v w) (hb : Below w.heap.size w w') : New2 lo x y v w' := by
  obtain ⟨b, hv, hl, hk⟩ := h
  exact ⟨b, hv, hl, hk.later hb⟩
theorem New2.new (lo : Nat) (x y : BitVec 256) (w : World) (h : lo ≤ w.heap.size) : New2 lo x y (.slice (some ⟨w.heap.size, 0, none⟩) 2 2) (w.alloc (.cells (cells8 x y) 29)) := ⟨_, rfl, h, Blk.new _ _ _⟩

/-- The boxes of the call, and the row that it reads. -/
structure RefW (A : Option Addr) (P : List (BitVec 256)) (a : BitVec 256) (ba br : Nat) (w0 w : World) : Prop where
  below : Below w0.heap.size w0 w
  abox : Blk w ba (cells4 a) 29
  rbox : Blk w br (cells4 (~~~a)) 29
  row : LRow w A P
  deb : Deb w
theorem RefW.later {A : Option Addr} {P : List (BitVec 256)} {a : BitVec 256} {ba br : Nat} {w0 w w' : World} (h : RefW A P a ba br w0 w) (hb : Below w.heap.size w w') : RefW A P a ba br w0 w' :=
  ⟨h.below.trans (hb.mono h.below.size), h.abox.later hb, h.rbox.later hb, h.row.later hb, h.deb.below hb⟩
/-- On the way: what is owned is of block B on. -/
structure RefR (A : Option Addr) (P : List (BitVec 256)) (a : BitVec 256) (ba br B : Nat) (w0 : World) (cur : List (BitVec 256)) (v : Value) (w : World) : Prop where
  r : RefW A P a ba br w0 w
  own : OwnC w B v cur
  hB : B ≤ w.heap.size
theorem RefR.later {A : Option Addr} {P cur : List (BitVec 256)} {a : BitVec 256} {ba br B : Nat} {w0 w w' : World} {v : Value} (h : RefR A P a ba br B w0 cur v w) (hb : Below w.heap.size w w') : RefR A P a ba br B w0 cur v w' :=
  ⟨h.r.later hb, h.own.later hb, Nat.le_trans h.hB hb.size⟩
def RefL (A : Option Addr) (P : List (BitVec 256)) (a : BitVec 256) (ba br B : Nat) (w0 wB : World) (v i : Value) (w : World) : Prop :=
  ∃ k, k ≤ P.length ∧ i = .int .i64 k ∧ OwnC w B v (piecesL (P.take k) a) ∧ Below B wB w
/-- In the inner loop: T is the row of the two. -/
def RefI (B T : Nat) (x y : BitVec 256) (cur : List (BitVec 256)) (wB : World) (v i : Value) (w : World) : Prop :=
  ∃ j : Nat, j ≤ 2 ∧ i = .int .i64 j ∧ OwnC w B v (cur ++ ([x, y].take j).filter fun x => !(x == 0#256)) ∧ v.ownBlock ≠ some T ∧ Blk w T (cells8 x y) 29 ∧ Below B wB w
structure RefS (A : Option Addr) (P : List (BitVec 256)) (a : BitVec 256) (ba br B : Nat) (w0 : World) (cur : List (BitVec 256)) (v : Value) (bp : Nat) (p : BitVec 256) (wB w : World) : Prop where
  r : RefR A P a ba br B w0 cur v w
  pbox : Blk w bp (cells4 p) 29
  below : Below B wB w
theorem RefS.later {A : Option Addr} {P cur : List (BitVec 256)} {a p : BitVec 256} {ba br B bp : Nat} {w0 wB w w' : World} {v : Value} (h : RefS A P a ba br B w0 cur v bp p wB w) (hb : Below w.heap.size w w') : RefS A P a ba br B w0 cur v bp p wB w' :=
  ⟨h.r.later hb, h.pbox.later hb, h.below.trans (hb.mono h.r.hB)⟩

structure BoxS (w0 : World) (b : Nat) (z : BitVec 256) (w : World) : Prop where
  below : Below w0.heap.size w0 w
  box : Blk w b (cells4 z) 29
theorem BoxS.later {w0 w w' : World} {b : Nat} {z : BitVec 256} (h : BoxS w0 b z w) (hb : Below w.heap.size w w') : BoxS w0 b z w' := ⟨h.below.trans (hb.mono h.below.size), h.box.later hb⟩
theorem two_cells (x y : BitVec 256) (j c : Nat) (hj : j < 2) (hc : c < 4) : (cells8 x y)[j * 4 + c]? = some (.int .u64 (wd ([x, y].getD j 0) c)) := by
  rcases (by omega : j = 0 ∨ j = 1) with rfl | rfl <;> rcases (by omega : c = 0 ∨ c = 1 ∨ c = 2 ∨ c = 3) with rfl | rfl | rfl | rfl <;> rfl
theorem filt_no (x y : BitVec 256) (j : Nat) (hj : j < 2) (h : ([x, y].getD j 0 == 0#256) = true) : ([x, y].take (j + 1)).filter (fun x => !(x == 0#256)) = ([x, y].take j).filter fun x => !(x == 0#256) := by
  rcases (by omega : j = 0 ∨ j = 1) with rfl | rfl
  · simp at h; simp [h]
  · simp at h; simp [h, List.filter_cons]
theorem filt_yes (x y : BitVec 256) (j : Nat) (hj : j < 2) (h : ([x, y].getD j 0 == 0#256) = false) : ([x, y].take (j + 1)).filter (fun x => !(x == 0#256)) = (([x, y].take j).filter fun x => !(x == 0#256)) ++ [[x, y].getD j 0] := by
  rcases (by omega : j = 0 ∨ j = 1) with rfl | rfl
  · simp at h; simp [h]
  · simp at h
    by_cases hx : x = 0#256 <;> simp [h, hx]
theorem filt_len (x y : BitVec 256) (j : Nat) : (([x, y].take j).filter fun x => !(x == 0#256)).length ≤ 2 := by
  refine Nat.le_trans (List.length_filter_le _ _) ?_
  rw [List.length_take]; simp; omega

theorem wpList_append_place {w : World} {ops : Array Oper} {rest : List Oper} {o : Oper} {a : Act} {Q : Exit → Act → World → Prop} (hgd : o.guard = none) (s x : Operand)
    (ho : o.op = .call { callee := .builtin .append, args := #[s, x], argTypes := #[22, 22] })
    (base : Nat) (v : Value) (l : List (BitVec 256)) (hs : a.eval s = v) (hown : OwnC w base v l)
    (b : Nat) (t : BitVec 256) (hx : a.eval x = .slice (some ⟨b, 0, none⟩) 1 1) (hnew : Blk w b (cells4 t) 29) (hlen : l.length < 1073741824) (hbase : base ≤ w.heap.size)
    (h : ∀ v' w', OwnC w' base v' (l ++ [t]) → w.grownBy w' v.ownBlock → (v'.ownBlock = v.ownBlock ∨ ∃ g', v'.ownBlock = some g' ∧ w.heap.size ≤ g') → wpList Tryd.prog ops Q rest (a.put o.dst v') w') : wpList Tryd.prog ops Q (o :: rest) a w :=
  wpList_plain hgd fun K hK => wp_append_cls s x ho base v l hs hown b t hx hnew hlen hbase fun v' w' h1 h2 _ h4 => hK _ _ (h v' w' h1 h2 h4)

set_option maxRecDepth 1000000 in
set_option maxHeartbeats 16000000 in
theorem refine_any (P : List (BitVec 256)) (A : Option Addr) (cap : Nat) (a : BitVec 256) (w : World) (hr : LRow w A P) (hd : Deb w) (hl : P.length < 268435456) :
    Calls Tryd.prog 18 #[.slice A P.length cap, cls a] w (AnsRow w (refineL P a)) := by
  have hb0 : Below w.heap.size w (w.alloc (.cells (cells4 a) 29)) := (Below.refl _ _).alloc (Nat.le_refl _) _
  have HR := Lib.hid (hr.later hb0)
  have HB0 := Lib.hid hb0
  have HD := Lib.hid (hd.below hb0)
  have hlz : (P.length : Int) < 268435456 := by omega
  have hneq := neq_cls
  have hg2 := eqGuard_neq
  clear hr hb0 hd
  unfold cls
  go_enter Tryd.func18, Tryd.ntmps18
  go_wp2_with fail
  refine (not_any a _).mono ?_; rintro e w1 ⟨rfl, hb1⟩
  have hba := (Blk.new w (cells4 a) 29).later hb1
  have HW : Hid (RefW A P a w.heap.size w1.heap.size w (w1.alloc (.cells (cells4 (~~~a)) 29))) := by
    have hb2 : Below w1.heap.size w1 (w1.alloc (.cells (cells4 (~~~a)) 29)) := (Below.refl _ _).alloc (Nat.le_refl _) _
    have hs := HB0.out.size
    exact ⟨(HB0.out.trans (hb1.mono hs)).trans (hb2.mono (Nat.le_trans hs hb1.size)), hba.alloc _, Blk.new _ _ _, (HR.out.later hb1).later hb2, (HD.out.below hb1).below hb2⟩
  clear hb1 hba
  unfold cls
  go_wp2
  obtain ⟨ba, hba⟩ : ∃ ba, ba = w.heap.size := ⟨_, rfl⟩
  go_loopw [5, 15] (RefL A P a w.heap.size w1.heap.size (w1.alloc (.cells (cells4 (~~~a)) 29)).heap.size w (w1.alloc (.cells (cells4 (~~~a)) 29))) (fun _ i _ => P.length - (intOf i).toNat)
  case atStart => exact ⟨0, Nat.zero_le _, rfl, OwnC.nil _ _, Below.refl _ _⟩
  case round =>
    obtain ⟨k, hk, rfl, ho, hb⟩ := hrel
    clear hba
    have HO := Lib.hid ho
    have HB := Lib.hid hb
    have hsB := hb.size
    have hpl := pieces_len a (P.take k)
    rw [List.length_take] at hpl
    generalize hwB : w1.alloc (.cells (cells4 (~~~a)) 29) = wB at *
    clear hwB
    have HWR := Lib.hid (HW.out.later hb)
    by_cases hlt : k < P.length
    · have hltz : (k : Int) < (P.length : Int) := by omega
      obtain ⟨b, off, hA, hbl, d0, d1, d2, d3⟩ := HWR.out.row.cells k hlt
      subst hA
      have HN : Hid (piecesL (P.take (k + 1)) a = piecesL (P.take k) a ++ [P.getD k 0 &&& a, P.getD k 0 &&& ~~~a].filter fun x => !(x == 0#256)) := by
        have hg : P.getD k 0 = P[k] := by simp [hlt]
        rw [List.take_succ_eq_append_getElem hlt, ← hg]; exact pieces_snoc _ _ _
      have hgl : ∀ g, u5.ownBlock = some g → g < wr.heap.size := fun g h => (World.ownsRow.lt ho g h).2
      have HGL := Lib.hid hgl
      clear ho hb hgl
      generalize P.getD k 0 = p at *
      have HS : Hid (RefS (some ⟨b, off, none⟩) P a w.heap.size w1.heap.size wB.heap.size w (piecesL (P.take k) a) u5 wr.heap.size p wB (wr.alloc (.cells (cells4 p) 29))) :=
        have hb2 : Below wr.heap.size wr (wr.alloc (.cells (cells4 p) 29)) := (Below.refl _ _).alloc (Nat.le_refl _) _
        ⟨⟨HWR.out.later hb2, HO.out.later hb2, Nat.le_trans hsB hb2.size⟩, Blk.new _ _ _, HB.out.trans (hb2.mono hsB)⟩
      go_upto_region 6 with (fail)
      clear d0 d1 d2 d3
      refine wp_region_stable (S := (RefS (some ⟨b, off, none⟩) P a w.heap.size w1.heap.size wB.heap.size w (piecesL (P.take k) a) u5 wr.heap.size p wB)) (hSt := fun _ _ h hb => h.later hb) (plan := [[(8, none)], [(3, none)], [(19, some 0), (20, some 1)], [(8, none)], [(6, none)], [(22, some 3), (23, some 4)], [(21, some 2), (24, some 5)], [(25, some 6)], []]) (by kernel_rfl) (by kernel_rfl) (by kernel_rfl) ?hS ?_
      rotate_left
      iterate 6 first
        | (refine chain_skip (by rfl) (by rfl) ?_)
        | (apply chain_want (by rfl)
           · intro act wx hS hr
             simp at hr
             have h1 := hS.pbox.cells
             have h2 := hS.r.r.abox.cells
             have h3 := hS.r.r.rbox.cells
             (try (obtain ⟨v, hr2, bb, rfl, hk1, hk2⟩ := hr))
             go_simp
             (try go_ints)
             first
               | exact Done.same (v := cls _)
               | ((with_reducible refine (both_any _ _ _).mono ?_); rintro e w' ⟨rfl, hb⟩; exact Done.mk hb)
               | exact Done.same
          )
      (refine chain_rel (New2 wr.heap.size (p &&& a) (p &&& ~~~a)) (New2.later _ _ _) (by rfl) ?_ ?_
       · intro act wx hS hr
         simp at hr
         have h1 := hS.pbox.cells
         have h2 := hS.r.r.abox.cells
         have h3 := hS.r.r.rbox.cells
         (try (obtain ⟨v, hr2, bb, rfl, hk1, hk2⟩ := hr))
         unfold cls at hr
         all_goals go_simp
         exact Done.rel ((Below.refl _ _).alloc (Nat.le_refl _) _) (New2.new _ _ _ _ (Nat.le_of_lt hS.pbox.lt))
      )
      iterate 2 first
        | (refine chain_skip (by rfl) (by rfl) ?_)
        | (apply chain_want (by rfl)
           · intro act wx hS hr
             simp at hr
             have h1 := hS.pbox.cells
             have h2 := hS.r.r.abox.cells
             have h3 := hS.r.r.rbox.cells
             (try (obtain ⟨v, hr2, bb, rfl, hk1, hk2⟩ := hr))
             go_simp
             (try go_ints)
             first
               | exact Done.same (v := cls _)
               | ((with_reducible refine (both_any _ _ _).mono ?_); rintro e w' ⟨rfl, hb⟩; exact Done.mk hb)
               | exact Done.same
          )
      show ∀ w', _ → _
      intro wz hz
      simp [Act.put]
      case hS => exact HS.out
      intro vv hv
      obtain ⟨T, rfl, hlo, hT⟩ := hv
      have HZ := Lib.hid hz
      have HT := Lib.hid hT
      clear hz hT HS
      generalize p &&& a = x at *
      generalize p &&& ~~~a = y at *
      generalize piecesL (P.take k) a = cur at *
      go_wp2
      go_loopw [5, 27] (RefI wB.heap.size T x y cur wB) (fun _ i _ => 2 - (intOf i).toNat)
      case atStart => exact ⟨0, by omega, rfl, by simpa using HZ.out.r.own, fun h => by have := HGL.out T h; omega, HT.out, HZ.out.below⟩
      case round =>
        obtain ⟨j, hj, rfl, ho, hpl2, hT, hb⟩ := hrel
        have HO2 := Lib.hid ho
        have HB2 := Lib.hid hb
        have HT2 := Lib.hid hT
        have HPL := Lib.hid hpl2
        have hsB2 := hb.size
        have hfl := filt_len x y j
        clear ho hb hT hpl2
        by_cases hjl : j < 2
        · have hjz : (j : Int) < 2 := by omega
          have e0 := (HT2.out.cell (j * 4 + 0)).trans (two_cells x y j 0 hjl (by omega))
          have e1 := (HT2.out.cell (j * 4 + 1)).trans (two_cells x y j 1 hjl (by omega))
          have e2 := (HT2.out.cell (j * 4 + 2)).trans (two_cells x y j 2 hjl (by omega))
          have e3 := (HT2.out.cell (j * 4 + 3)).trans (two_cells x y j 3 hjl (by omega))
          simp only [Nat.add_zero] at e0
          have HF0 := Lib.hid (filt_no x y j hjl)
          have HF1 := Lib.hid (filt_yes x y j hjl)
          generalize [x, y].getD j 0 = z at *
          cases hz0 : (z == 0#256) with
          | true =>
            have HFE := Lib.hid (HF0.out hz0)
            clear HF0 HF1
            go_upto_region 9 with (fail)
            clear e0 e1 e2 e3
            refine wp_region_stable (S := (BoxS wr wr.heap.size z)) (hSt := fun _ _ h hb => h.later hb) (plan := [[(10, none)], [], [(31, some 0), (32, some 1)]]) (by kernel_rfl) (by kernel_rfl) (by kernel_rfl) ?hS ?_
            rotate_left
            iterate 3 first
              | (refine chain_skip (by rfl) (by rfl) ?_)
              | (apply chain_want (by rfl)
                 · intro act wx hS hr
                   simp at hr
                   have h1 := hS.box.cells
                   go_simp
                   (try go_ints)
                   first
                     | exact Done.same (v := cls _)
                     | (rw [lit0]; exact Done.same)
                     | exact Done.same
                )
            show ∀ w', _ → _
            intro wz2 hz
            simp [Act.put]
            case hS => exact ⟨(Below.refl _ _).alloc (Nat.le_refl _) _, Blk.new _ _ _⟩
            have hzb := hz.below
            have HZB := Lib.hid hz
            clear hz hneq hg2
            have HQ : Hid (RefI wB.heap.size T x y cur wB u5 (.int .i64 ((j + 1 : Nat) : Int)) wz2) :=
              ⟨j + 1, by omega, rfl, by rw [HFE.out]; exact HO2.out.later hzb, HPL.out, HT2.out.later hzb, HB2.out.trans (hzb.mono hsB2)⟩
            clear hzb
            go_wp2
            go_roundw
            case rel => first | exact HQ.out | ((repeat apply Exists.intro); exact ⟨HQ.out, rfl⟩)
            case measure => simp [intOf]; omega
          | false =>
            have HFE := Lib.hid (HF1.out hz0)
            clear HF0 HF1
            go_upto_region 9 with (fail)
            clear e0 e1 e2 e3
            refine wp_region_stable (S := (BoxS wr wr.heap.size z)) (hSt := fun _ _ h hb => h.later hb) (plan := [[(10, none)], [], [(31, some 0), (32, some 1)]]) (by kernel_rfl) (by kernel_rfl) (by kernel_rfl) ?hS ?_
            rotate_left
            iterate 3 first
              | (refine chain_skip (by rfl) (by rfl) ?_)
              | (apply chain_want (by rfl)
                 · intro act wx hS hr
                   simp at hr
                   have h1 := hS.box.cells
                   go_simp
                   (try go_ints)
                   first
                     | exact Done.same (v := cls _)
                     | (rw [lit0]; exact Done.same)
                     | exact Done.same
                )
            show ∀ w', _ → _
            intro wz2 hz
            simp [Act.put]
            case hS => exact ⟨(Below.refl _ _).alloc (Nat.le_refl _) _, Blk.new _ _ _⟩
            have hzb := hz.below
            have HZB := Lib.hid hz
            clear hz hneq hg2
            have hsz := hzb.size
            have HZL := Lib.hid HZB.out.box.lt
            have g1 := HZB.out.box.cells
            have hbk2 := Blk.new wz2 (cells4 z) 29
            have HBK := Lib.hid hbk2
            have HO3 := Lib.hid ((HO2.out.later hzb).later ((Below.refl _ _).alloc (Nat.le_refl _) (.cells (cells4 z) 29)))
            have HB3 := Lib.hid ((HB2.out.trans (hzb.mono hsB2)).alloc (Nat.le_trans hsB2 hsz) (.cells (cells4 z) 29))
            have HT3 := Lib.hid ((HT2.out.later hzb).alloc (.cells (cells4 z) 29))
            have hTl : T < wz2.heap.size := (HT2.out.later hzb).lt
            have hlen : (cur ++ ([x, y].take j).filter fun x => !(x == 0#256)).length < 1073741824 := by
              rw [List.length_append]; omega
            have hbase : wB.heap.size ≤ (wz2.alloc (.cells (cells4 z) 29)).heap.size := by simp; omega
            clear hzb hbk2
            unfold cells4 at HBK HO3 HB3 HT3 hbase
            go_wp2_with (at_builtin; refine wpList_append_place rfl _ _ rfl wB.heap.size u5 _ rfl HO3.out wz2.heap.size z rfl HBK.out hlen hbase ?_; intro v' w' h1 h2 h3)
            have HQ : Hid (RefI wB.heap.size T x y cur wB v' (.int .i64 ((j + 1 : Nat) : Int)) w') := by
              refine ⟨j + 1, by omega, rfl, by rw [HFE.out, ← List.append_assoc]; exact h1, ?_, ?_, ?_⟩
              · rcases h3 with e | ⟨g', e, hl3⟩
                · rw [e]; exact HPL.out
                · rw [e]; intro q; cases q; simp at hl3; omega
              · exact (h2.block T HT3.out.lt (fun q => HPL.out q.symm)).trans HT3.out
              · exact HB3.out.grown h2 hbase fun g hg => (World.ownsRow.lt HO3.out g hg).1
            clear h1 h2 h3
            go_wp2
            go_roundw
            case rel => first | exact HQ.out | ((repeat apply Exists.intro); exact ⟨HQ.out, rfl⟩)
            case measure => simp [intOf]; omega
        · obtain rfl : j = 2 := by omega
          have HQ : Hid (RefL (some ⟨b, off, none⟩) P a w.heap.size w1.heap.size wB.heap.size w wB u5 (.int .i64 ((k + 1 : Nat) : Int)) wr) :=
            ⟨k + 1, by omega, rfl, by rw [HN.out]; exact HO2.out, HB2.out⟩
          clear hneq hg2
          go_wp2
          go_roundw
          case rel => first | exact HQ.out | ((repeat apply Exists.intro); exact ⟨HQ.out, rfl⟩)
          case measure => simp [intOf]; omega
    · obtain rfl : k = P.length := by omega
      rw [List.take_length] at ho
      have hbw : Below w.heap.size w wr := HWR.out.below
      have hdw := HWR.out.deb
      have hgd := HD.out.1
      clear hneq hg2 HO
      rcases ho.cases with ⟨hv, hnil⟩ | ⟨g, cap2, hv, hbg, hrc⟩
      · subst hv
        have HQ : Hid (IsRow (refineL P a) (.slice none 0 0) wr ∧ Below w.heap.size w wr) := by
          refine ⟨⟨none, 0, ?_, ?_⟩, hbw⟩
          · rw [refine_length, hnil]; rfl
          · have : refineL P a = [] := List.length_eq_zero_iff.1 (by rw [refine_length, hnil]; rfl)
            rw [this]; exact LRow.nil _ _
        clear ho hb hbw hdw
        go_wp2_with fail
        refine (sortby_none _).mono ?_
        rintro e w5 ⟨rfl, rfl⟩
        go_wp2
        go_returns
        exact ⟨_, rfl, HQ.out⟩
      · subst hv
        have hsw := hbw.size
        have hpl3 := pieces_len a P
        have HRC := Lib.hid hrc
        have HBW := Lib.hid hbw
        have HDW := Lib.hid hdw
        have hwg : w.heap.size ≤ wB.heap.size := HW.out.below.size
        have hgd2 : 2 < w.heap.size + 1 := Nat.lt_of_lt_of_le HD.out.1 (by simp)
        have hwg2 : w.heap.size < wB.heap.size := HW.out.abox.lt
        clear ho hb hbw hdw hrc
        go_wp2_with fail
        refine (sortby_any (fun i => (piecesL P a).getD i 0) g (piecesL P a).length cap2 _ HRC.out HDW.out (by omega) (by omega)).mono ?_
        rintro e w5 ⟨rfl, f', hf, hs⟩
        have HF : Hid (IsRow (refineL P a) (.slice (some ⟨g, 0, none⟩) (piecesL P a).length cap2) w5 ∧ Below w.heap.size w w5) := by
          rw [map_getD] at hf
          exact ⟨⟨_, cap2, by rw [refine_length], hs.row.lrow hf⟩, HBW.out.trans (hs.but.below (by omega) (Nat.le_of_lt HRC.out.lt))⟩
        clear hs hf
        go_wp2
        go_returns
        exact ⟨_, rfl, HF.out⟩
end Go.Proofs.YtgehepiphdphjaaDoor
