/- What an item opens to: walked, the whole. -/
import Derived.Test.YtgabifebcfgngaaM33
import Derived.Test.YtgabifebcfgngaaM29
import Derived.Test.YtgabifebcfgngaaM32
import Derived.RangeFuncNested
import Derived.RangeFuncBound
import Derived.RangeFuncCalls
import Derived.RangeFuncLeaves
import Derived.RangeFuncBox
import Derived.Shelf.Abstract
import Derived.WalkKit
import Derived.OwnWalkIn
import Derived.TacticsInMore
import Derived.LoopNIn
import Derived.LoopIn
namespace Go.Proofs.Ytgabifebcfgngaa
open Go Go.RowKit
set_option linter.unusedVariables false
set_option linter.unusedSimpArgs false
set_option maxRecDepth 100000
set_option maxHeartbeats 16000000

theorem blk_typ {w : World} {b c : Nat} {vs us : Array Value} {t u : TypeId} (h : Blk w b vs t) (k : Blk w c us u) (hne : t ≠ u) : b ≠ c := by
  rintro rfl
  unfold Blk at h k
  rw [h] at k
  cases k
  exact hne rfl
theorem bel_grown {B : Nat} {a b c : World} {g : Nat} (h : Below B a b) (hB : B ≤ b.heap.size) (k : b.grownBy c (some g)) (hg : B ≤ g) : Below B a c :=
  h.trans ⟨k.os, k.tape, k.output, k.size, fun j hj => k.block j (by omega) (by intro e; cases e; omega)⟩
structure HopS (w0 : World) (A : Option Addr) (l : List Nd) (c : Nat) (x : Itm) (L : List (List Itm)) (bn : Nat) (n : Nd) (w : World) : Prop where
  bel : Below w0.heap.size w0 w
  row : NRow w A l
  bd : Blk w w0.heap.size #[.slice A l.length c] 24
  bx : Blk w (w0.heap.size + 1) (itV x) 43
  br : Blk w (w0.heap.size + 2) (rwsC []) 70
  bg : Blk w (w0.heap.size + 3) (rwsC L) 70
  bn : Blk w bn (ndC n) 48
theorem HopS.later {w0 w w' : World} {A : Option Addr} {l : List Nd} {c : Nat} {x : Itm} {L : List (List Itm)} {bn : Nat} {n : Nd} (h : HopS w0 A l c x L bn n w) (hb : Below w.heap.size w w') : HopS w0 A l c x L bn n w' :=
  ⟨h.bel.trans (hb.mono h.bel.size), h.row.later hb, h.bd.later hb, h.bx.later hb, h.br.later hb, h.bg.later hb, h.bn.later hb⟩
theorem HopS.turn {w0 w w' : World} {A : Option Addr} {l : List Nd} {c : Nat} {x : Itm} {L M : List (List Itm)} {bn : Nat} {n : Nd} (h : HopS w0 A l c x L bn n w) (hr : NRow w0 A l) (k : Blk w' (w0.heap.size + 3) (rwsC M) 70) (kg : w.grownBy w' (some (w0.heap.size + 3))) : HopS w0 A l c x M bn n w' := by
  have hb := bel_grown h.bel h.bel.size kg (by omega)
  have hk : ∀ (b : Nat) (cs : Array Value) (t : TypeId), Blk w b cs t → b ≠ w0.heap.size + 3 → Blk w' b cs t := fun b cs t hb hne => (kg.block b hb.lt (by intro e; cases e; exact hne rfl)).trans hb
  exact ⟨hb, hr.later hb, hk _ _ _ h.bd (by omega), hk _ _ _ h.bx (by omega), hk _ _ _ h.br (by omega), k, hk _ _ _ h.bn (blk_typ h.bn h.bg (by decide))⟩
/-- The four boxes. -/
structure Hop0 (w0 : World) (A : Option Addr) (l : List Nd) (c : Nat) (x : Itm) (w : World) : Prop where
  bel : Below w0.heap.size w0 w
  row : NRow w A l
  bd : Blk w w0.heap.size #[.slice A l.length c] 24
  bx : Blk w (w0.heap.size + 1) (itV x) 43
  br : Blk w (w0.heap.size + 2) (rwsC []) 70
  bg : Blk w (w0.heap.size + 3) (rwsC []) 70
theorem Hop0.later {w0 w w' : World} {A : Option Addr} {l : List Nd} {c : Nat} {x : Itm} (h : Hop0 w0 A l c x w) (hb : Below w.heap.size w w') : Hop0 w0 A l c x w' :=
  ⟨h.bel.trans (hb.mono h.bel.size), h.row.later hb, h.bd.later hb, h.bx.later hb, h.br.later hb, h.bg.later hb⟩
theorem Hop0.new {w : World} {A : Option Addr} {l : List Nd} (c : Nat) (x : Itm) (hr : NRow w A l) : Hop0 w A l c x ((((w.alloc (.cells #[.slice A l.length c] 24)).alloc (.cells (itV x) 43)).alloc (.cells (rwsC []) 70)).alloc (.cells (rwsC []) 70)) := by
  have hb : ∀ (w : World) (o : Obj), Below w.heap.size w (w.alloc o) := fun w o => (Below.refl _ _).alloc (Nat.le_refl _) _
  have h1 := Blk.new w #[.slice A l.length c] 24
  have e1 : (w.alloc (.cells #[.slice A l.length c] 24)).heap.size = w.heap.size + 1 := World.size_alloc _ _
  have hB1 := hb w (.cells #[.slice A l.length c] 24)
  generalize w.alloc (.cells #[.slice A l.length c] 24) = w1 at *
  have h2 := Blk.new' e1.symm (itV x) 43
  have e2 : (w1.alloc (.cells (itV x) 43)).heap.size = w.heap.size + 2 := by rw [World.size_alloc, e1]
  have hB2 := hb w1 (.cells (itV x) 43)
  generalize w1.alloc (.cells (itV x) 43) = w2 at *
  have h3 := Blk.new' e2.symm (rwsC []) 70
  have e3 : (w2.alloc (.cells (rwsC []) 70)).heap.size = w.heap.size + 3 := by rw [World.size_alloc, e2]
  have hB3 := hb w2 (.cells (rwsC []) 70)
  generalize w2.alloc (.cells (rwsC []) 70) = w3 at *
  have h4 := Blk.new' e3.symm (rwsC []) 70
  have hB4 := hb w3 (.cells (rwsC []) 70)
  generalize w3.alloc (.cells (rwsC []) 70) = w4 at *
  have hBB : Below w.heap.size w w4 := ((hB1.trans (hB2.mono (by omega))).trans (hB3.mono (by omega))).trans (hB4.mono (by omega))
  exact ⟨hBB, hr.later hBB, ((h1.later hB2).later hB3).later hB4, (h2.later hB3).later hB4, h3.later hB4, h4⟩
theorem rwI_one {l : List Nd} {x : Itm} {i : Nat} (h1 : x.kind = 1) (hx : x.node = (i : Int)) : rwI l x = nodR (atN l i) x := by
  unfold rwI opnS nodR
  simp only [h1, hx, Int.toNat_natCast]
  rw [if_neg (by omega), if_neg (by omega)]
theorem opens_zero : rwsC [] = #[Value.int .i64 0, .int .i64 0, .int .i64 0, .int .i64 0, .int .i64 0, .int .i64 0, .int .i64 0, .int .i64 0, .int .i64 0, .int .i64 0, .int .i64 0, .int .i64 0, .int .i64 0, .int .i64 0, .int .i64 0, .int .i64 0, .int .i64 0, .int .i64 0, .int .i64 0] := rfl
theorem rwsC_ones {L : List (List Itm)} : (rwsC L).all (·.oneCell') = true := by
  rw [Array.all_eq_true_iff_forall_mem]
  intro v hv
  unfold rwsC at hv
  rw [List.mem_toArray, List.mem_append, List.mem_append] at hv
  have h : ∀ r, v ∈ rowC r → v.oneCell' = true := fun r hr => by
    unfold rowC at hr
    rcases List.mem_append.1 hr with h | h
    · exact flatIt_ones _ v h
    · rw [List.mem_singleton.1 h]; rfl
  rcases hv with (h1 | h1) | h1
  · exact h _ h1
  · exact h _ h1
  · rw [List.mem_singleton.1 h1]; rfl
theorem rwsC_info {L : List (List Itm)} (h : RwOk L) : (Try.prog.info? 70).map (·.size) = some (rwsC L).size := by
  rw [rwsC_size h]; kernel_rfl
theorem setRow_blk {w : World} {g : Nat} {cs cs' : Array Value} {t : TypeId} (h : Blk w g cs t) : Blk (w.setRow g cs') g cs' t := setRow_heap _ _ _ _ _ _ h
theorem hdOpens_any (l : List Nd) (A : Option Addr) (c : Nat) (x : Itm) (hF : Form l) (h0 : 0 < l.length) (hx : HdF l x) (hrd : rdyS l [x] = false) (hlen : l.length ≤ 1073741824) (w : World) (hrow : NRow w A l) :
    Calls Try.prog 34 #[.agg #[.slice A l.length c], .agg (itV x)] w (Ans w (.agg (rwsC (rwI l x)))) := by
  obtain ⟨i, hil, hin⟩ := hx.inl h0
  have hkd := hx.kind
  have hr1 := rwI_one (l := l) (x := x) (i := i)
  have hRI : ∀ T, rwI l x = T → Hid (rwI l x = T) := fun T h => h
  obtain ⟨kk, nn, lo, hi'⟩ := x
  simp only at hin hkd hr1
  subst hin
  have HS := Lib.hid (Hop0.new c ⟨kk, (i : Int), lo, hi'⟩ hrow)
  have HN := Lib.hid (fun (w' : World) (h : NRow w' A l) => hdNode_any l A c ⟨kk, (i : Int), lo, hi'⟩ i hil rfl hlen w' h)
  have HR := Lib.hid hrow
  obtain ⟨T, hT⟩ : ∃ T, rwI l ⟨kk, (i : Int), lo, hi'⟩ = T := ⟨_, rfl⟩
  have HT0 := Lib.hid hT
  have HOK : Hid (RwOk T) := by unfold Hid; rw [← hT]; exact rw_len _ _
  rw [hT]
  clear hT hrow
  rw [opens_zero] at HS
  go_enter Try.func34, Try.ntmps34
  go_upto_region 2 with (fail)
  unfold itV at HS HN ⊢
  simp only at HS HN ⊢
  generalize (((w.alloc (.cells #[.slice A l.length c] 24)).alloc (.cells #[.int .i64 kk, .int .i64 (i : Int), .int .i64 lo, .int .i64 hi'] 43)).alloc (.cells #[Value.int .i64 0, .int .i64 0, .int .i64 0, .int .i64 0, .int .i64 0, .int .i64 0, .int .i64 0, .int .i64 0, .int .i64 0, .int .i64 0, .int .i64 0, .int .i64 0, .int .i64 0, .int .i64 0, .int .i64 0, .int .i64 0, .int .i64 0, .int .i64 0, .int .i64 0] 70)).alloc (.cells #[Value.int .i64 0, .int .i64 0, .int .i64 0, .int .i64 0, .int .i64 0, .int .i64 0, .int .i64 0, .int .i64 0, .int .i64 0, .int .i64 0, .int .i64 0, .int .i64 0, .int .i64 0, .int .i64 0, .int .i64 0, .int .i64 0, .int .i64 0, .int .i64 0, .int .i64 0] 70) = w1 at HS ⊢
  have e0 := HS.out.bd.cell 0
  have hit := HS.out.bx
  unfold itV at hit
  simp only at hit
  have x0 := hit.cell 0
  have x1 := hit.cell 1
  have x2 := hit.cell 2
  have x3 := hit.cell 3
  simp at x0 x1 x2 x3 e0
  clear hit
  go_wp2_with fail
  refine (HN.out _ HS.out.row).mono ?_
  rintro e w2 ⟨rfl, hb⟩
  generalize hn : atN l i = n at *
  obtain ⟨nk, na, nb, nlo, nhi, ncls, ntext⟩ := n
  have HS2 := Lib.hid (HS.out.later hb)
  clear hb x0 x1 x2 x3 e0 HN HS
  unfold ndC
  simp only
  go_upto_region 3 with (fail)
  have hb3 := (Below.refl w2.heap.size w2).alloc (Nat.le_refl _) (.cells (ndC ⟨nk, na, nb, nlo, nhi, ncls, ntext⟩) 48)
  have HBN := Lib.hid (Blk.new w2 (ndC ⟨nk, na, nb, nlo, nhi, ncls, ntext⟩) 48)
  have HS3 := HS2.out.later hb3
  have HS4 : HopS w A l c ⟨kk, (i : Int), lo, hi'⟩ [] w2.heap.size ⟨nk, na, nb, nlo, nhi, ncls, ntext⟩ (w2.alloc (.cells (ndC ⟨nk, na, nb, nlo, nhi, ncls, ntext⟩) 48)) := ⟨HS3.bel, HS3.row, HS3.bd, HS3.bx, HS3.br, HS3.bg, HBN.out⟩
  clear HS3 HS2 HBN hb3
  have HS : Hid _ := HS4
  clear HS4
  unfold ndC at HS
  simp only at HS
  generalize (w2.alloc (.cells #[.int .i64 nk, .int .i64 na, .int .i64 nb, .int .i64 nlo, .int .i64 nhi, .int .u64 (wd ncls 0), .int .u64 (wd ncls 1), .int .u64 (wd ncls 2), .int .u64 (wd ncls 3), .string (bs ntext)] 48)) = w3 at HS ⊢
  generalize w2.heap.size = bn at HS ⊢
  have SS := HS
  by_cases k5 : kk = 5
  · have HT5 : Hid (T = if lo = 0 then [[]] else []) := by
      unfold Hid; rw [← HT0.out]; unfold rwI opnS; simp only; rw [if_pos k5]
    have hk5 : (kk == 5) = true := by simpa using k5
    clear hr1 HT0 hRI k5
    have g := SS.out.bn
    unfold ndC at g
    obtain ⟨g0, g1, g2, g3, g4, g5, g6, g7, g8, g9⟩ := ten_cells g
    have hit := SS.out.bx
    unfold itV at hit
    simp only at hit
    have x0 := hit.cell 0
    have x1 := hit.cell 1
    have x2 := hit.cell 2
    have x3 := hit.cell 3
    have e0 := SS.out.bd.cell 0
    simp at x0 x1 x2 x3 e0
    clear g hit
    by_cases hl0 : lo = 0
    · have HT : Hid (T = [[]]) := by unfold Hid; rw [HT5.out, if_pos hl0]
      have e1 : (lo == 0) = true := by simpa using hl0
      clear HT5 hl0
      go_wp2_with fail
      refine (hdAdd_any [] (by simp) rw_ok0 [] (by simp) _ none 0 _ HS.out.bg (ItRow.nil _ _)).mono ?_
      intro e w4 hadd
      obtain rfl := hadd.1
      have HZ := Lib.hid (HS.out.turn (M := [[]]) HR.out hadd.2.1 hadd.2.2)
      clear hadd x0 x1 x2 x3 e0 g0 g1 g2 g3 g4 g5 g6 g7 g8 g9
      have HZT := HZ.out
      rw [← HT.out] at HZT
      have HZU := Lib.hid HZT
      clear HZT
      go_upto_region 14 with (fail)
      go_wp2_with (refine wpList_load_row rfl 70 _ rfl (w.heap.size + 3) rfl 70 (rwsC T) (0, 0) _ HZU.out.bg Try.underlying70 rfl (rwsC_info HOK.out) ?_; refine wpList_store_row rfl 70 _ _ rfl (w.heap.size + 2) (rwsC T) rfl rfl 70 (rwsC []) HZU.out.br (rwsC_info HOK.out) (by rw [rwsC_size HOK.out]; rfl) rwsC_ones ?_)
      refine bodyPost_ret (results_cell_row rfl _ _ (w.heap.size + 2) 70 (rwsC T) (0, 0) _ rfl (setRow_blk HZU.out.br) Try.underlying70 rfl (rwsC_info HOK.out)) rfl ⟨rfl, ?_⟩
      exact bel_grown HZU.out.bel HZU.out.bel.size (setRow_grown _ _ _) (by omega)
    · have HT : Hid (T = []) := by unfold Hid; rw [HT5.out, if_neg hl0]
      have e1 : (lo == 0) = false := by simpa using hl0
      have HZ := HS
      clear HT5 hl0
      have HZT := HZ.out
      rw [← HT.out] at HZT
      have HZU := Lib.hid HZT
      clear HZT
      go_upto_region 14 with (fail)
      go_wp2_with (refine wpList_load_row rfl 70 _ rfl (w.heap.size + 3) rfl 70 (rwsC T) (0, 0) _ HZU.out.bg Try.underlying70 rfl (rwsC_info HOK.out) ?_; refine wpList_store_row rfl 70 _ _ rfl (w.heap.size + 2) (rwsC T) rfl rfl 70 (rwsC []) HZU.out.br (rwsC_info HOK.out) (by rw [rwsC_size HOK.out]; rfl) rwsC_ones ?_)
      refine bodyPost_ret (results_cell_row rfl _ _ (w.heap.size + 2) 70 (rwsC T) (0, 0) _ rfl (setRow_blk HZU.out.br) Try.underlying70 rfl (rwsC_info HOK.out)) rfl ⟨rfl, ?_⟩
      exact bel_grown HZU.out.bel HZU.out.bel.size (setRow_grown _ _ _) (by omega)
  · have hk5 : (kk == 5) = false := by simpa using k5
    by_cases k2 : kk = 2
    · have HT2 : Hid (T = (if lo = 0 then [[]] else []) ++ (if 0 < hi' then [[⟨1, na, 0, 0⟩, ⟨2, (i : Int), max lo 1 - 1, hi' - 1⟩]] else [])) := by
        unfold Hid; rw [← HT0.out]; unfold rwI opnS; simp only
        rw [if_neg k5, if_pos k2, Int.toNat_natCast, hn, show max 0 (lo - 1) = max lo 1 - 1 by omega]
      have hk2 : (kk == 2) = true := by simpa using k2
      obtain ⟨q0, q1, q2, q3⟩ := hx.two k2
      simp only [Int.toNat_natCast] at q0 q1 q2 q3
      rw [hn] at q0 q3
      simp only at q0 q3
      have hb1 : hi' ≤ 255 := by
        have := hd_cs hF hil
        rw [hn] at this
        cases this with
        | leaf h1 hf => unfold leafK at h1; simp only at h1; omega
        | one h1 hi0 ha hb h7 hr hcl hf => have := hr q0; simp only at this; omega
        | two h1 hi0 hb ha hf0 hl hcl hf => simp only at h1; omega
      clear hr1 HT0 hRI k5 hn hx hrd q0 q3
      subst k2
      have g := SS.out.bn
      unfold ndC at g
      obtain ⟨g0, g1, g2, g3, g4, g5, g6, g7, g8, g9⟩ := ten_cells g
      have hit := SS.out.bx
      unfold itV at hit
      simp only at hit
      have x0 := hit.cell 0
      have x1 := hit.cell 1
      have x2 := hit.cell 2
      have x3 := hit.cell 3
      have e0 := SS.out.bd.cell 0
      simp at x0 x1 x2 x3 e0
      clear g hit
      by_cases hl0 : lo = 0
      · have e1 : (lo == 0) = true := by simpa using hl0
        by_cases hh0 : hi' = 0
        · have HT : Hid (T = [[]]) := by unfold Hid; rw [HT2.out, if_pos hl0, if_neg (by omega)]; rfl
          have e2 : (hi' != 0) = false := by simpa using hh0
          clear HT2 hl0 hh0 q1 q2 hb1
          go_wp2_with fail
          refine (hdAdd_any [] (by simp) rw_ok0 [] (by simp) _ none 0 _ HS.out.bg (ItRow.nil _ _)).mono ?_
          intro e w4 hadd
          obtain rfl := hadd.1
          have HZ := Lib.hid (HS.out.turn (M := [[]]) HR.out hadd.2.1 hadd.2.2)
          clear hadd x0 x1 x2 x3 e0 g0 g1 g2 g3 g4 g5 g6 g7 g8 g9 SS
          have SS := HZ
          have g := SS.out.bn
          unfold ndC at g
          obtain ⟨g0, g1, g2, g3, g4, g5, g6, g7, g8, g9⟩ := ten_cells g
          have hit := SS.out.bx
          unfold itV at hit
          simp only at hit
          have x0 := hit.cell 0
          have x1 := hit.cell 1
          have x2 := hit.cell 2
          have x3 := hit.cell 3
          have e0 := SS.out.bd.cell 0
          simp at x0 x1 x2 x3 e0
          clear g hit
          have HZT := HZ.out
          rw [← HT.out] at HZT
          have HZU := Lib.hid HZT
          clear HZT
          go_upto_region 14 with (fail)
          go_wp2_with (refine wpList_load_row rfl 70 _ rfl (w.heap.size + 3) rfl 70 (rwsC T) (0, 0) _ HZU.out.bg Try.underlying70 rfl (rwsC_info HOK.out) ?_; refine wpList_store_row rfl 70 _ _ rfl (w.heap.size + 2) (rwsC T) rfl rfl 70 (rwsC []) HZU.out.br (rwsC_info HOK.out) (by rw [rwsC_size HOK.out]; rfl) rwsC_ones ?_)
          refine bodyPost_ret (results_cell_row rfl _ _ (w.heap.size + 2) 70 (rwsC T) (0, 0) _ rfl (setRow_blk HZU.out.br) Try.underlying70 rfl (rwsC_info HOK.out)) rfl ⟨rfl, ?_⟩
          exact bel_grown HZU.out.bel HZU.out.bel.size (setRow_grown _ _ _) (by omega)
        · have HT : Hid (T = [[], [⟨1, na, 0, 0⟩, ⟨2, (i : Int), max lo 1 - 1, hi' - 1⟩]]) := by unfold Hid; rw [HT2.out, if_pos hl0, if_pos (by omega)]; rfl
          have e2 : (hi' != 0) = true := by simpa using hh0
          clear HT2 hl0 hh0
          go_wp2_with fail
          refine (hdAdd_any [] (by simp) rw_ok0 [] (by simp) _ none 0 _ HS.out.bg (ItRow.nil _ _)).mono ?_
          intro e w4 hadd
          obtain rfl := hadd.1
          have HZ := Lib.hid (HS.out.turn (M := [[]]) HR.out hadd.2.1 hadd.2.2)
          clear hadd x0 x1 x2 x3 e0 g0 g1 g2 g3 g4 g5 g6 g7 g8 g9 SS
          have SS := HZ
          have g := SS.out.bn
          unfold ndC at g
          obtain ⟨g0, g1, g2, g3, g4, g5, g6, g7, g8, g9⟩ := ten_cells g
          have hit := SS.out.bx
          unfold itV at hit
          simp only at hit
          have x0 := hit.cell 0
          have x1 := hit.cell 1
          have x2 := hit.cell 2
          have x3 := hit.cell 3
          have e0 := SS.out.bd.cell 0
          simp at x0 x1 x2 x3 e0
          clear g hit
          go_upto_region 11 with (fail)
          clear x0 x1 x2 x3 e0 g0 g1 g2 g3 g4 g5 g6 g7 g8 g9 SS
          refine wp_region_stable_tail 14 (S := (HopS w A l c ⟨2, (i : Int), lo, hi'⟩ [[]] bn ⟨nk, na, nb, nlo, nhi, ncls, ntext⟩)) (hSt := fun _ _ h hb => h.later hb) (plan := [[(6, none)], [(27, some 0)], [(28, some 1)], [(3, none)], [(30, some 3)], [(3, none)], [(32, some 5)], [(33, some 6)], [(34, some 7)], [(3, none)], [(36, some 9)], [(37, some 10)], [(31, some 4), (35, some 8), (38, some 11)], [(29, some 2), (39, some 12)]]) rfl rfl (by kernel_rfl) (by kernel_rfl) (by kernel_rfl) (by kernel_rfl) ?hS ?_
          rotate_left
          iterate 13 first
            | (refine chain_skip (by rfl) (by rfl) ?_)
            | (apply chain_want (by rfl)
               · intro act wx hS hr
                 simp at hr
                 have SS := Lib.hid hS
                 have g := SS.out.bn
                 unfold ndC at g
                 obtain ⟨g0, g1, g2, g3, g4, g5, g6, g7, g8, g9⟩ := ten_cells g
                 have hit := SS.out.bx
                 unfold itV at hit
                 simp only at hit
                 have x0 := hit.cell 0
                 have x1 := hit.cell 1
                 have x2 := hit.cell 2
                 have x3 := hit.cell 3
                 have e0 := SS.out.bd.cell 0
                 simp at x0 x1 x2 x3 e0
                 clear g hit
                 go_simp
                 (try go_ints)
                 first
                   | ((with_reducible refine (hdWhole_any _ _).mono ?_); rintro e w' ⟨rfl, hb⟩; exact Done.mk hb)
                   | exact Done.same
              )
          (refine chain_rel (New2 ⟨1, na, 0, 0⟩ ⟨2, (i : Int), max lo 1 - 1, hi' - 1⟩) (New2.later ⟨1, na, 0, 0⟩ ⟨2, (i : Int), max lo 1 - 1, hi' - 1⟩) (by rfl) ?_ ?_
           · intro act wx hS hr
             simp at hr
             have SS := Lib.hid hS
             have g := SS.out.bn
             unfold ndC at g
             obtain ⟨g0, g1, g2, g3, g4, g5, g6, g7, g8, g9⟩ := ten_cells g
             have hit := SS.out.bx
             unfold itV at hit
             simp only at hit
             have x0 := hit.cell 0
             have x1 := hit.cell 1
             have x2 := hit.cell 2
             have x3 := hit.cell 3
             have e0 := SS.out.bd.cell 0
             simp at x0 x1 x2 x3 e0
             clear g hit
             all_goals go_simp
             exact Done.rel ((Below.refl _ _).alloc (Nat.le_refl _) _) ⟨_, rfl, Blk.new _ _ _⟩
          )
          show ∀ w', _ → _
          intro wz hz
          simp [Act.put]
          case hS => exact HZ.out
          intro v7 hv7
          obtain ⟨b7, rfl, hk7⟩ := hv7
          have HZ2 := Lib.hid hz
          have HK7 := Lib.hid hk7
          clear hz hk7 HZ
          go_wp2_with fail
          refine (hdAdd_any [[]] (by simp) (rw_ok1 (by simp)) [⟨1, na, 0, 0⟩, ⟨2, (i : Int), max lo 1 - 1, hi' - 1⟩] (by simp) _ (some ⟨b7, 0, none⟩) 2 _ HZ2.out.bg (ItRow.two (p := ⟨1, na, 0, 0⟩) (q := ⟨2, (i : Int), max lo 1 - 1, hi' - 1⟩) HK7.out)).mono ?_
          intro e w5 hadd
          obtain rfl := hadd.1
          have HZ := Lib.hid (HZ2.out.turn (M := [[], [⟨1, na, 0, 0⟩, ⟨2, (i : Int), max lo 1 - 1, hi' - 1⟩]]) HR.out hadd.2.1 hadd.2.2)
          clear hadd
          have HZT := HZ.out
          rw [← HT.out] at HZT
          have HZU := Lib.hid HZT
          clear HZT
          go_upto_region 14 with (fail)
          go_wp2_with (refine wpList_load_row rfl 70 _ rfl (w.heap.size + 3) rfl 70 (rwsC T) (0, 0) _ HZU.out.bg Try.underlying70 rfl (rwsC_info HOK.out) ?_; refine wpList_store_row rfl 70 _ _ rfl (w.heap.size + 2) (rwsC T) rfl rfl 70 (rwsC []) HZU.out.br (rwsC_info HOK.out) (by rw [rwsC_size HOK.out]; rfl) rwsC_ones ?_)
          refine bodyPost_ret (results_cell_row rfl _ _ (w.heap.size + 2) 70 (rwsC T) (0, 0) _ rfl (setRow_blk HZU.out.br) Try.underlying70 rfl (rwsC_info HOK.out)) rfl ⟨rfl, ?_⟩
          exact bel_grown HZU.out.bel HZU.out.bel.size (setRow_grown _ _ _) (by omega)
      · have e1 : (lo == 0) = false := by simpa using hl0
        have HT : Hid (T = [[⟨1, na, 0, 0⟩, ⟨2, (i : Int), max lo 1 - 1, hi' - 1⟩]]) := by unfold Hid; rw [HT2.out, if_neg hl0, if_pos (by omega)]; rfl
        have e2 : (hi' != 0) = true := by
          have : hi' ≠ 0 := by omega
          simpa using this
        clear HT2 hl0
        go_upto_region 11 with (fail)
        clear x0 x1 x2 x3 e0 g0 g1 g2 g3 g4 g5 g6 g7 g8 g9 SS
        refine wp_region_stable_tail 14 (S := (HopS w A l c ⟨2, (i : Int), lo, hi'⟩ [] bn ⟨nk, na, nb, nlo, nhi, ncls, ntext⟩)) (hSt := fun _ _ h hb => h.later hb) (plan := [[(6, none)], [(27, some 0)], [(28, some 1)], [(3, none)], [(30, some 3)], [(3, none)], [(32, some 5)], [(33, some 6)], [(34, some 7)], [(3, none)], [(36, some 9)], [(37, some 10)], [(31, some 4), (35, some 8), (38, some 11)], [(29, some 2), (39, some 12)]]) rfl rfl (by kernel_rfl) (by kernel_rfl) (by kernel_rfl) (by kernel_rfl) ?hS ?_
        rotate_left
        iterate 13 first
          | (refine chain_skip (by rfl) (by rfl) ?_)
          | (apply chain_want (by rfl)
             · intro act wx hS hr
               simp at hr
               have SS := Lib.hid hS
               have g := SS.out.bn
               unfold ndC at g
               obtain ⟨g0, g1, g2, g3, g4, g5, g6, g7, g8, g9⟩ := ten_cells g
               have hit := SS.out.bx
               unfold itV at hit
               simp only at hit
               have x0 := hit.cell 0
               have x1 := hit.cell 1
               have x2 := hit.cell 2
               have x3 := hit.cell 3
               have e0 := SS.out.bd.cell 0
               simp at x0 x1 x2 x3 e0
               clear g hit
               go_simp
               (try go_ints)
               first
                 | ((with_reducible refine (hdWhole_any _ _).mono ?_); rintro e w' ⟨rfl, hb⟩; exact Done.mk hb)
                 | exact Done.same
            )
        (refine chain_rel (New2 ⟨1, na, 0, 0⟩ ⟨2, (i : Int), max lo 1 - 1, hi' - 1⟩) (New2.later ⟨1, na, 0, 0⟩ ⟨2, (i : Int), max lo 1 - 1, hi' - 1⟩) (by rfl) ?_ ?_
         · intro act wx hS hr
           simp at hr
           have SS := Lib.hid hS
           have g := SS.out.bn
           unfold ndC at g
           obtain ⟨g0, g1, g2, g3, g4, g5, g6, g7, g8, g9⟩ := ten_cells g
           have hit := SS.out.bx
           unfold itV at hit
           simp only at hit
           have x0 := hit.cell 0
           have x1 := hit.cell 1
           have x2 := hit.cell 2
           have x3 := hit.cell 3
           have e0 := SS.out.bd.cell 0
           simp at x0 x1 x2 x3 e0
           clear g hit
           all_goals go_simp
           exact Done.rel ((Below.refl _ _).alloc (Nat.le_refl _) _) ⟨_, rfl, Blk.new _ _ _⟩
        )
        show ∀ w', _ → _
        intro wz hz
        simp [Act.put]
        case hS => exact HS.out
        intro v7 hv7
        obtain ⟨b7, rfl, hk7⟩ := hv7
        have HZ2 := Lib.hid hz
        have HK7 := Lib.hid hk7
        clear hz hk7 HS
        go_wp2_with fail
        refine (hdAdd_any [] (by simp) rw_ok0 [⟨1, na, 0, 0⟩, ⟨2, (i : Int), max lo 1 - 1, hi' - 1⟩] (by simp) _ (some ⟨b7, 0, none⟩) 2 _ HZ2.out.bg (ItRow.two (p := ⟨1, na, 0, 0⟩) (q := ⟨2, (i : Int), max lo 1 - 1, hi' - 1⟩) HK7.out)).mono ?_
        intro e w5 hadd
        obtain rfl := hadd.1
        have HZ := Lib.hid (HZ2.out.turn (M := [[⟨1, na, 0, 0⟩, ⟨2, (i : Int), max lo 1 - 1, hi' - 1⟩]]) HR.out hadd.2.1 hadd.2.2)
        clear hadd
        have HZT := HZ.out
        rw [← HT.out] at HZT
        have HZU := Lib.hid HZT
        clear HZT
        go_upto_region 14 with (fail)
        go_wp2_with (refine wpList_load_row rfl 70 _ rfl (w.heap.size + 3) rfl 70 (rwsC T) (0, 0) _ HZU.out.bg Try.underlying70 rfl (rwsC_info HOK.out) ?_; refine wpList_store_row rfl 70 _ _ rfl (w.heap.size + 2) (rwsC T) rfl rfl 70 (rwsC []) HZU.out.br (rwsC_info HOK.out) (by rw [rwsC_size HOK.out]; rfl) rwsC_ones ?_)
        refine bodyPost_ret (results_cell_row rfl _ _ (w.heap.size + 2) 70 (rwsC T) (0, 0) _ rfl (setRow_blk HZU.out.br) Try.underlying70 rfl (rwsC_info HOK.out)) rfl ⟨rfl, ?_⟩
        exact bel_grown HZU.out.bel HZU.out.bel.size (setRow_grown _ _ _) (by omega)
    · have k1 : kk = 1 := by
        have := hrd
        unfold rdyS at this
        simp only [Bool.or_eq_false_iff, decide_eq_false_iff_not] at this
        omega
      have HT : Hid (T = nodR ⟨nk, na, nb, nlo, nhi, ncls, ntext⟩ ⟨kk, (i : Int), lo, hi'⟩) := by unfold Hid; rw [← HT0.out]; exact hr1 k1 trivial
      subst k1
      clear hr1 HT0 hRI k5 k2 hn hx hrd
      have g := SS.out.bn
      unfold ndC at g
      obtain ⟨g0, g1, g2, g3, g4, g5, g6, g7, g8, g9⟩ := ten_cells g
      have hit := SS.out.bx
      unfold itV at hit
      simp only at hit
      have x0 := hit.cell 0
      have x1 := hit.cell 1
      have x2 := hit.cell 2
      have x3 := hit.cell 3
      have e0 := SS.out.bd.cell 0
      simp at x0 x1 x2 x3 e0
      clear g hit
      have HON := Lib.hid (hdOpenNode_any ⟨nk, na, nb, nlo, nhi, ncls, ntext⟩ ⟨1, (i : Int), lo, hi'⟩ (w.heap.size + 1 + 1 + 1) w3 HS.out.bg)
      unfold ndC itV at HON
      simp only at HON
      go_wp2_with fail
      refine HON.out.mono ?_
      intro e w4 hadd
      obtain rfl := hadd.1
      have HZ := Lib.hid (HS.out.turn HR.out hadd.2.1 hadd.2.2)
      clear hadd HON x0 x1 x2 x3 e0 g0 g1 g2 g3 g4 g5 g6 g7 g8 g9
      have HZT := HZ.out
      rw [← HT.out] at HZT
      have HZU := Lib.hid HZT
      clear HZT
      go_upto_region 14 with (fail)
      go_wp2_with (refine wpList_load_row rfl 70 _ rfl (w.heap.size + 3) rfl 70 (rwsC T) (0, 0) _ HZU.out.bg Try.underlying70 rfl (rwsC_info HOK.out) ?_; refine wpList_store_row rfl 70 _ _ rfl (w.heap.size + 2) (rwsC T) rfl rfl 70 (rwsC []) HZU.out.br (rwsC_info HOK.out) (by rw [rwsC_size HOK.out]; rfl) rwsC_ones ?_)
      refine bodyPost_ret (results_cell_row rfl _ _ (w.heap.size + 2) 70 (rwsC T) (0, 0) _ rfl (setRow_blk HZU.out.br) Try.underlying70 rfl (rwsC_info HOK.out)) rfl ⟨rfl, ?_⟩
      exact bel_grown HZU.out.bel HZU.out.bel.size (setRow_grown _ _ _) (by omega)
end Go.Proofs.Ytgabifebcfgngaa
/- The walk's memory: its box, what is ahead, what is found. -/
namespace Go.Proofs.Ytgabifebcfgngaa
open Go Go.RowKit
set_option linter.unusedVariables false
set_option linter.unusedSimpArgs false
set_option maxRecDepth 100000

def wkC (NA : Option Addr) (l : List Nd) (c : Nat) (v : Value) (f m : Nat) : Array Value := #[.slice NA l.length c, v, .int .i64 (f : Int), .map (some m)]
def HdE.v (e : HdE) : Value := .slice e.A e.s.length e.cap
def Aprt (v u : Value) : Prop := u.ownBlock = none ∨ u.ownBlock ≠ v.ownBlock
structure HwS (l : List Nd) (NA : Option Addr) (c wb m : Nat) (w0 : World) (Ah : List Itm) (f : Nat) (HE : List HdE) (v : Value) (w : World) : Prop where
  bel : Below w0.heap.size w0 w
  row : NRow w0 NA l
  blk : Blk w wb (wkC NA l c v f m) 57
  own : OwnIt w w0.heap.size v Ah.reverse
  map : IsMapH w m HE
  hwb : w0.heap.size ≤ wb
  hm : w0.heap.size ≤ m
  ent : ∀ e ∈ HE, OwnIt w w0.heap.size e.v e.s ∧ Aprt v e.v
/-- What calls keep. -/
structure HdK (w0 : World) (wb : Nat) (w w' : World) : Prop where
  bel : Below w0.heap.size w w'
  typ : ∀ b cs t, Blk w b cs t → t ≠ 43 → b ≠ wb → Blk w' b cs t
section
variable {l : List Nd} {NA : Option Addr} {c wb m : Nat} {w0 w w1 w' : World} {Ah : List Itm} {f : Nat} {HE : List HdE} {v v' : Value}
theorem HdK.refl (w0 : World) (wb : Nat) (w : World) : HdK w0 wb w w := ⟨Below.refl _ _, fun _ _ _ h _ _ => h⟩
theorem HdK.trans {a b d : World} (h : HdK w0 wb a b) (k : HdK w0 wb b d) : HdK w0 wb a d := ⟨h.bel.trans k.bel, fun g cs t hb h1 h2 => k.typ g cs t (h.typ g cs t hb h1 h2) h1 h2⟩
theorem HdK.of (hs : w0.heap.size ≤ w.heap.size) (h : Below w.heap.size w w') : HdK w0 wb w w' := ⟨h.mono hs, fun b cs t hb _ _ => hb.later h⟩
theorem own_at {l : List Itm} {B : Nat} (h : OwnIt w B v l) {g : Nat} (hg : v.ownBlock = some g) : ∃ cur, Blk w g cur 43 ∧ B ≤ g := by
  obtain ⟨-, ⟨rfl, -⟩ | ⟨g', cap, cur, rfl, hb, hgg, -⟩⟩ := h
  · cases hg
  · simp only [Value.ownBlock, Option.some.injEq] at hg
    subst hg
    exact ⟨cur, hgg, hb⟩
theorem own_not {l : List Itm} {B b : Nat} {cs : Array Value} {t : TypeId} (h : OwnIt w B v l) (hb : Blk w b cs t) (ht : t ≠ 43) : v.ownBlock ≠ some b := fun e => by
  obtain ⟨cur, h1, -⟩ := own_at h e
  exact blk_typ h1 hb (Ne.symm ht) rfl
theorem own_notm {l : List Itm} {B : Nat} {L : List HdE} (h : OwnIt w B v l) (hm : IsMapH w m L) : v.ownBlock ≠ some m := fun e => by
  obtain ⟨cur, h1, -⟩ := own_at h e
  unfold Blk at h1
  unfold IsMapH at hm
  rw [hm] at h1; cases h1
theorem HdK.grown {x : List Itm} (h : OwnIt w w0.heap.size v x) (hs : w0.heap.size ≤ w.heap.size) (hg : w.grownBy w' v.ownBlock) : HdK w0 wb w w' :=
  ⟨⟨hg.os, hg.tape, hg.output, hg.size, fun k hk => hg.block k (by omega) (fun e => by
    obtain ⟨cur, -, h2⟩ := own_at h e.symm
    omega)⟩, fun b cs t hb ht _ => (hg.block b hb.lt (fun e => own_not h hb ht e.symm)).trans hb⟩
theorem HdK.set (hs : w0.heap.size ≤ wb) (j : Nat) (u : Value) : HdK w0 wb w (w.setCell ⟨wb, j, none⟩ u) :=
  ⟨(Below.refl _ _).setCell (p := ⟨wb, j, none⟩) hs u, fun b cs t hb _ hne => hb.setCell_ne (a := ⟨wb, j, none⟩) (Ne.symm hne) u⟩
theorem HdK.put {L L' : List HdE} (hm : IsMapH w m L) (hs : w0.heap.size ≤ m) : HdK w0 wb w (putMapH w m L') :=
  ⟨⟨rfl, rfl, rfl, by rw [putMapH_size]; exact Nat.le_refl _, fun k hk => putMapH_other (by omega) _⟩, fun b cs t hb _ _ => (putMapH_other (fun e => by
    subst e
    unfold Blk at hb; unfold IsMapH at hm; rw [hm] at hb; cases hb) _).trans hb⟩
theorem own_wb {x : List Itm} {B : Nat} {cs : Array Value} (h : OwnIt w B v x) (hb : Blk w wb cs 57) (j : Nat) (u : Value) : OwnIt (w.setCell ⟨wb, j, none⟩ u) B v x :=
  World.ownsRow.kept h (setCell_grown w wb j u) (.inr (own_not h hb (by decide)))
theorem map_wb {L : List HdE} {cs : Array Value} (hm : IsMapH w m L) (hb : Blk w wb cs 57) (j : Nat) (u : Value) : IsMapH (w.setCell ⟨wb, j, none⟩ u) m L :=
  ((setCell_grown w wb j u).block m hm.lt (fun e => by
    cases e
    unfold Blk at hb; unfold IsMapH at hm; rw [hm] at hb; cases hb)).trans hm
theorem HwS.size (h : HwS l NA c wb m w0 Ah f HE v w) : w0.heap.size ≤ w.heap.size := h.bel.size
theorem HwS.nrow (h : HwS l NA c wb m w0 Ah f HE v w) : NRow w NA l := h.row.later h.bel
theorem HwS.later (h : HwS l NA c wb m w0 Ah f HE v w) (hb : Below w.heap.size w w') : HwS l NA c wb m w0 Ah f HE v w' :=
  ⟨h.bel.trans (hb.mono h.size), h.row, h.blk.later hb, h.own.later hb, (hb.block m h.map.lt).trans h.map, h.hwb, h.hm, fun e he => ⟨(h.ent e he).1.later hb, (h.ent e he).2⟩⟩
theorem HwS.push {x : Itm} (h : HwS l NA c wb m w0 Ah f HE v w) (h1 : OwnIt w1 w0.heap.size v' (Ah.reverse ++ [x])) (hg : w.grownBy w1 v.ownBlock) (hp : v'.ownBlock = v.ownBlock ∨ ∃ g', v'.ownBlock = some g' ∧ w.heap.size ≤ g') :
    HwS l NA c wb m w0 (x :: Ah) f HE v' (w1.setCell ⟨wb, 1, none⟩ v') := by
  have hk : HdK w0 wb w w1 := HdK.grown h.own h.size hg
  have hb1 : Blk w1 wb (wkC NA l c v f m) 57 := (hg.block wb h.blk.lt (fun e => own_not h.own h.blk (by decide) e.symm)).trans h.blk
  have hm1 : IsMapH w1 m HE := (hg.block m h.map.lt (fun e => own_notm h.own h.map e.symm)).trans h.map
  refine ⟨(h.bel.trans hk.bel).trans (HdK.set h.hwb 1 v').bel, h.row, hb1.setCell 1 v', ?_, map_wb hm1 hb1 1 v', h.hwb, h.hm, fun e he => ?_⟩
  · rw [List.reverse_cons]; exact own_wb h1 hb1 1 v'
  · obtain ⟨e1, e2⟩ := h.ent e he
    refine ⟨own_wb (World.ownsRow.kept e1 hg e2) hb1 1 v', ?_⟩
    rcases e2 with e2 | e2
    · exact .inl e2
    · rcases hp with hp | ⟨g', hp, hg'⟩
      · exact .inr (by rw [hp]; exact e2)
      · cases ho : e.v.ownBlock with
        | none => exact .inl ho
        | some b =>
          refine .inr fun e3 => ?_
          rw [ho, hp] at e3
          cases e3
          obtain ⟨cur, e4, -⟩ := own_at e1 ho
          have := e4.lt
          omega
theorem HwS.fuel (h : HwS l NA c wb m w0 Ah f HE v w) (f' : Nat) : HwS l NA c wb m w0 Ah f' HE v (w.setCell ⟨wb, 2, none⟩ (.int .i64 (f' : Int))) :=
  ⟨h.bel.trans (HdK.set h.hwb 2 _).bel, h.row, h.blk.setCell 2 _, own_wb h.own h.blk 2 _, map_wb h.map h.blk 2 _, h.hwb, h.hm, fun e he => ⟨own_wb (h.ent e he).1 h.blk 2 _, (h.ent e he).2⟩⟩
theorem own_init {x : List Itm} {y : Itm} {B n cap : Nat} {A : Option Addr} (h : OwnIt w B (.slice A n cap) (x ++ [y])) : OwnIt w B (.slice A x.length cap) x := by
  obtain ⟨h0, ⟨hv, hn⟩ | ⟨g, cap', cur, hv, hb, hgg, hc, hm, hs, ht⟩⟩ := h
  · simp at hn
  · rw [List.length_append, List.length_singleton] at hv hc ht
    cases hv
    refine ⟨flatIt_length _, .inr ⟨g, cap, cur, rfl, hb, hgg, by omega, hm, hs, ?_⟩⟩
    have : cur.toList.take (x.length * 4) = (cur.toList.take ((x.length + 1) * 4)).take (x.length * 4) := by rw [List.take_take]; congr 1; omega
    rw [this, ht, flatIt_append, List.take_append_of_le_length (by rw [flatIt_length]; omega), ← flatIt_length, List.take_length]
theorem HwS.pop {x : Itm} {A : Option Addr} {n cap : Nat} (h : HwS l NA c wb m w0 (x :: Ah) f HE (.slice A n cap) w) : HwS l NA c wb m w0 Ah f HE (.slice A Ah.length cap) (w.setCell ⟨wb, 1, none⟩ (.slice A Ah.length cap)) := by
  have ho := h.own
  rw [List.reverse_cons] at ho
  have h1 := own_init ho
  rw [List.length_reverse] at h1
  refine ⟨h.bel.trans (HdK.set h.hwb 1 _).bel, h.row, h.blk.setCell 1 _, own_wb h1 h.blk 1 _, map_wb h.map h.blk 1 _, h.hwb, h.hm, fun e he => ⟨own_wb (h.ent e he).1 h.blk 1 _, ?_⟩⟩
  have := (h.ent e he).2
  unfold Aprt Value.ownBlock at this ⊢
  cases A <;> exact this
theorem HwS.put {e : HdE} (h : HwS l NA c wb m w0 Ah f HE v w) (he : OwnIt w w0.heap.size e.v e.s) (ha : Aprt v e.v) : HwS l NA c wb m w0 Ah f (putE HE e) v (putMapH w m (putE HE e)) := by
  have hg : w.grownBy (putMapH w m (putE HE e)) (some m) := ⟨rfl, rfl, rfl, by rw [putMapH_size]; exact Nat.le_refl _, fun k hk hne => putMapH_other (fun e => hne (by rw [e])) _⟩
  have hkp : ∀ {u : Value} {x : List Itm}, OwnIt w w0.heap.size u x → OwnIt (putMapH w m (putE HE e)) w0.heap.size u x := fun hu => World.ownsRow.kept hu hg (.inr (own_notm hu h.map))
  refine ⟨h.bel.trans (HdK.put (wb := wb) h.map h.hm).bel, h.row, (hg.block wb h.blk.lt (fun q => ?_)).trans h.blk, hkp h.own, putMapH_is h.map.lt _, h.hwb, h.hm, fun d hd => ?_⟩
  · cases q
    have h1 := h.blk
    have h2 := h.map
    unfold Blk at h1; unfold IsMapH at h2; rw [h2] at h1; cases h1
  · rcases put_mem hd with rfl | hd
    · exact ⟨hkp he, ha⟩
    · exact ⟨hkp (h.ent d hd).1, (h.ent d hd).2⟩
end
end Go.Proofs.Ytgabifebcfgngaa
/- A range over a function that calls yield with what is known beforehand. Laws. -/
namespace Go.Proofs.Ytgabifebcfgngaa
open Go Go.RowKit
set_option linter.unusedVariables false
set_option linter.unusedSimpArgs false
set_option maxRecDepth 100000

/-- What a function owes that calls yield with the arguments 'ag 0', 'ag 1', .., whatever holds between two rounds. -/
def YieldsI (P : Program) (g : Nat) (lb : Array Value) (N : Nat) (ag : Nat → Array Value) (I : Nat → World → Prop) : Prop :=
  ∀ (l : Nat) (J : Nat → World → Prop) (W : World), (∀ k W, J k W → I k W) →
    (∀ k W1, k < N → J k W1 → YieldAt Fence.wide 1 P l (ag k) W1 fun e W' => e = .returned (.bool true) ∧ J (k + 1) W') → J 0 W →
    CallsIn Fence.wide 2 P g (#[.func (.yield l) #[] #[]] ++ lb) W fun e W' => (∃ v, e = .returned v) ∧ J N W'
/-- The same, where what is yielded is put into memory of its own ahead of the round. -/
theorem range_boxedI {P : Program} {g : Operand} {ps : Array Tmp} {assign body : Code} {Q : Exit → Act → World → Prop} {a : Act} {w : World}
    {gf : Nat} {lb : Array Value} (hg : a.eval g = .func (.func gf) #[] lb) (eg : ∀ args w, (callFunc gf args).run P w = .ok (.enter gf args) w)
    {N : Nat} {ag : Nat → Array Value} {I : Nat → World → Prop} {I1 : Nat → Act → World → Prop} (hseq : YieldsI P gf lb N ag I) (hps : ∀ k, (ag k).size = ps.size)
    (hI : ∀ k W l o o', I k W → w.heap.size ≤ l → W.heap[l]? = some o → o.isCells = false → I k (W.putObj l o'))
    (hI1 : ∀ k a W l o o', I1 k a W → w.heap.size ≤ l → W.heap[l]? = some o → o.isCells = false → I1 k a (W.putObj l o'))
    (h0 : ∀ o o', I 0 ((w.alloc o).alloc o'))
    (hassign : ∀ (l k : Nat) (W : World), k < N → I k W →
      assign.wpIn (Fence.wide.inRound l) 1 P (Exit.then (fun a1 W1 => I1 k a1 W1 ∧ KeepsFrom w.heap.size W W1) (fun _ _ _ => False)) { tmps := (ps.zip (ag k)).foldl (fun t (p, v) => t.setIfInBounds p v) a.tmps, defers := [] } W)
    (hbody : ∀ (l k : Nat) (a1 : Act) (W1 : World), k < N → I1 k a1 W1 → body.wpIn (Fence.wide.inRound l) 1 P (fun e _ W' => e = .normal ∧ KeepsFrom w.heap.size W1 W' ∧ I (k + 1) W') a1 W1)
    (hdone : ∀ (W : World), I N W → W.heap[w.heap.size]? = some (.deferred (some [])) → Q .normal { a with defers := { target := .collected w.heap.size, args := #[] } :: a.defers } W) :
    (Code.rangeFunc g ps assign body).wpIn Fence.wide 3 P Q a w := by
  refine wpIn_rangeFunc fun fn hfn => ?_
  let rc : LoopState → Loop := fun st => { state := st, pending := none, fn, tmps := a.tmps, params := ps, assign, body, defers := w.heap.size }
  let W1 : World := (w.alloc (.deferred (some []))).alloc (.loop (rc .ready))
  let J : Nat → World → Prop := fun k W => I k W ∧ W.heap[w.heap.size + 1]? = some (.loop (rc .ready)) ∧ W.heap[w.heap.size]? = some (.deferred (some []))
  have hL1 : W1.heap[w.heap.size + 1]? = some (.loop (rc .ready)) := by
    have := World.alloc_heap_new (w.alloc (.deferred (some []))) (.loop (rc .ready))
    rwa [World.size_alloc] at this
  have hK1 : W1.heap[w.heap.size]? = some (.deferred (some [])) := (Below.heap_alloc _ _ _ (by simp)).trans (World.alloc_heap_new w _)
  refine ⟨w.heap.size + 1, [{ target := .collected w.heap.size, args := #[] }], W1, { target := .fn (.func gf) lb, args := #[.func (.yield (w.heap.size + 1)) #[] #[]] }, W1, gf, #[.func (.yield (w.heap.size + 1)) #[] #[]] ++ lb, W1, run_enterLoop_outer _ _ _ _ _, ?_, ?_, ?_, fun _ => by decide, ?_⟩
  · simp only [resolve, hg]
    simp [go_sem]
  · intro f' hf'; trivial
  · simp [invoke, go_sem, eg]
  refine (hseq (w.heap.size + 1) J W1 (fun k W h => h.1) (fun k W hk hJ => ?_) ⟨h0 _ _, hL1, hK1⟩).mono ?_
  · obtain ⟨hi, hl, hd⟩ := hJ
    refine ⟨fn, _, assign, body, run_yield (P := P) (args := ag k) hl (hps k), roundIn_of_wpIn hfn (wpIn_mono (hassign _ k W hk hi) ?_)⟩
    intro e a1 Wa ha
    cases e with
    | normal =>
      obtain ⟨hi1, hka⟩ := ha
      have hla := hka.same _ _ (by omega) hl rfl
      have hda := hka.same _ _ (Nat.le_refl _) hd rfl
      have hlt : w.heap.size + 1 < Wa.heap.size := (Array.getElem?_eq_some_iff.1 hla).1
      refine ⟨_, run_beginRound hla rfl, ?_⟩
      have hl2 : (Wa.putObj (w.heap.size + 1) (.loop { rc .ready with state := .busy })).heap[w.heap.size + 1]? = some (.loop { rc .ready with state := .busy }) := World.putObj_heap_same hlt
      have hd2 : (Wa.putObj (w.heap.size + 1) (.loop { rc .ready with state := .busy })).heap[w.heap.size]? = some (.deferred (some [])) := (World.putObj_heap_other (by omega)).trans hda
      refine wpIn_mono (hbody _ k a1 _ hk (hI1 k a1 Wa _ _ _ hi1 (by omega) hla rfl)) ?_
      rintro e a3 W3 ⟨rfl, hk3, hi3⟩
      have hl3 := hk3.same _ _ (by omega) hl2 rfl
      have hd3 := hk3.same _ _ (Nat.le_refl _) hd2 rfl
      exact ⟨_, _, run_endRound (P := P) none hl3, rfl, hI _ _ _ _ _ hi3 (by omega) hl3 rfl, World.putObj_heap_same (Array.getElem?_eq_some_iff.1 hl3).1, (World.putObj_heap_other (by omega)).trans hd3⟩
    | _ => exact ha.elim
  · rintro e W2 ⟨⟨v, rfl⟩, hi, hl, hd⟩
    exact ⟨none, _, run_endLoop (P := P) hl (by simp [rc]), hdone _ (hI _ _ _ _ _ hi (by omega) hl rfl) ((World.putObj_heap_other (by omega)).trans hd)⟩
end Go.Proofs.Ytgabifebcfgngaa
/- slices.Backward over a row of items: walked. -/
namespace Go.Proofs.Ytgabifebcfgngaa
open Go Go.RowKit
set_option linter.unusedVariables false
set_option linter.unusedSimpArgs false
set_option maxRecDepth 100000
attribute [local go_sem] Oper.semAt_some

/-- What is yielded: the last first. -/
def bwI (N : Nat) (vs : List Itm) (k : Nat) : Array Value := #[.int .i64 ((N - k : Nat) - 1 : Int), .agg (itV (vs.getD (N - k - 1) it0))]
set_option maxHeartbeats 4000000 in
theorem backI_yields (Bs N c : Nat) (A : Option Addr) (vs : List Itm) (I : Nat → World → Prop) (hN : N ≤ 1000000)
    (hI : ∀ k W, I k W → W.cell? ⟨Bs, 0, none⟩ = some (.slice A N c) ∧ ∀ j, j < N → ∃ b off, A = some ⟨b, off, none⟩ ∧ At4 W b (off + j * 4) (vs.getD j it0)) :
    YieldsI Try.prog 52 #[.pointer (some ⟨Bs, 0, none⟩)] N (bwI N vs) I := fun l J W hJI hY h0 => by
  have hc0 := (hI _ _ (hJI _ _ h0)).1
  refine callsIn_of_wp Try.func52 rfl trivial ?_
  simp only [Try.ntmps52, List.size_toArray, List.length_cons, List.length_nil, Nat.reduceAdd, Nat.reduceSub, Array.replicate_succ, Array.replicate_zero, List.push_toArray, List.append_toArray, List.nil_append, List.cons_append]
  have hNz : (N : Int) ≤ 1000000 := by omega
  gi_wp2
  gi_loopw [3] (fun i wr => ∃ k : Nat, k ≤ N ∧ i = .int .i64 ((N - k : Nat) - 1 : Int) ∧ J k wr) (fun i _ => (intOf i + 1).toNat)
  case atStart => exact ⟨0, Nat.zero_le _, rfl, h0⟩
  case round =>
    obtain ⟨k, hk, rfl, hJs⟩ := hrel
    obtain ⟨hc, hcs⟩ := hI k wr (hJI _ _ hJs)
    by_cases hlt : k < N
    · obtain ⟨j, hj⟩ : ∃ j, N - k = j + 1 := ⟨N - k - 1, by omega⟩
      have hjN : j < N := by omega
      obtain ⟨b, off, rfl, hcell⟩ := hcs j hjN
      obtain ⟨fn, tmps, assign, body, hy, hR⟩ := hY k wr hlt hJs
      have hag : bwI N vs k = #[.int .i64 (j : Int), .agg (itV (vs.getD j it0))] := by
        unfold bwI; rw [hj, show j + 1 - 1 = j by omega, show ((j + 1 : Nat) : Int) - 1 = (j : Int) by omega]
      have e : ((N - k : Nat) : Int) - 1 = (j : Int) := by omega
      rw [e]
      rw [hag] at hy
      generalize vs.getD j it0 = vj at *
      obtain ⟨x0, x1, x2, x3⟩ := hcell
      unfold itV at hy
      have hj0 : ¬ (j : Int) < 0 := by omega
      have hj1 : (0 : Int) ≤ (j : Int) := by omega
      have hjz : (j : Int) < (N : Int) := by omega
      clear hcs hI hJI hY h0 hag e hc0
      gi_wp2
      refine hR.mono ?_
      rintro e W3 ⟨rfl, hJ3⟩
      gi_wp2
      go_roundw
      case rel => exact ⟨k + 1, by omega, by rw [show N - (k + 1) = j by omega], hJ3⟩
      case measure => simp [intOf]
    · obtain rfl : k = N := by omega
      have e : ((k - k : Nat) : Int) - 1 = -1 := by omega
      rw [e]
      clear hcs
      gi_wp2
      go_end0
      exact ⟨⟨_, rfl⟩, hJs⟩
set_option maxHeartbeats 4000000 in
theorem backwardI_any (N c : Nat) (A : Option Addr) (w : World) :
    Calls Try.prog 38 #[.slice A N c] w (fun e w' => e = .returned (.func (.func 52) #[] #[.pointer (some ⟨w.heap.size, 0, none⟩)]) ∧ w' = w.alloc (.cells #[.slice A N c] 29)) := by
  go_enter Try.func38, Try.ntmps38
  go_wp2
  go_ret
  exact ⟨rfl, rfl⟩
end Go.Proofs.Ytgabifebcfgngaa
