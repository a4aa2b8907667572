/- The statement SplitMore of layer 2, walked. -/
import Derived.Test.YtgehepiphdphjaaDoorSplitAwake
import Derived.Test.YtgehepiphdphjaaDoorSplitMoreM
import Derived.Test.YtgehepiphdphjaaDoorSplitFresh
import Derived.Test.YtgehepiphdphjaaDoorSplitRParts
namespace Go.Proofs.YtgehepiphdphjaaDoor
open Go Go.RowKit
set_option linter.unusedVariables false
set_option linter.unusedSimpArgs false

theorem more_len (l : List (BitVec 256)) (a : BitVec 256) : (headsL l).length ≤ (headsL (l ++ [a])).length ∧ (headsL (l ++ [a])).length ≤ 2 * (headsL l).length := by
  constructor
  · unfold headsL
    rw [← List.countP_eq_length_filter, ← List.countP_eq_length_filter]
    refine List.countP_mono_left fun c _ h => ?_
    rw [head_iff] at h ⊢
    intro d hd
    have h1 := h d hd
    cases h2 : likeB (l ++ [a]) d c with
    | false => rfl
    | true =>
      have : likeB l d c = true := like_iff.2 fun x hx => like_iff.1 h2 x (by simp [hx])
      rw [this] at h1; cases h1
  · have h1 := (isparts_pieces (isparts_parts l) a).length
    have h2 := pieces_len a (partsL l)
    rw [parts_length] at h2
    omega
def foundB (P : List (BitVec 256)) (Q : BitVec 256) (j : Nat) : Bool := (P.take j).any fun p => (Q &&& p) == Q
theorem found_succ {P : List (BitVec 256)} {Q : BitVec 256} {j : Nat} (hj : j < P.length) : foundB P Q (j + 1) = (foundB P Q j || ((Q &&& P.getD j 0) == Q)) := by
  have hg : P.getD j 0 = P[j] := by simp [hj]
  unfold foundB
  rw [List.take_succ_eq_append_getElem hj, List.any_append, hg]; simp
theorem found_all {l : List (BitVec 256)} {a Q : BitVec 256} (hQ : Q ∈ partsL (l ++ [a])) : foundB (partsL l) Q (partsL l).length = true := by
  unfold foundB
  rw [List.take_length, List.any_eq_true]
  unfold partsL at hQ
  rw [List.mem_map] at hQ
  obtain ⟨c, hc, rfl⟩ := hQ
  have hc2 : c < 256 := by unfold headsL at hc; rw [List.mem_filter, List.mem_range] at hc; exact hc.1
  obtain ⟨h1, h2, h3⟩ := head_lst (l := l) hc2
  refine ⟨cellB l (lstB (cellB l c)), by unfold partsL; rw [List.mem_map]; exact ⟨_, by unfold headsL; rw [List.mem_filter, List.mem_range]; exact ⟨h3, h1⟩, rfl⟩, ?_⟩
  rw [beq_iff_eq]
  refine and_eq_self.2 fun i hi hp => ?_
  rw [cell_bit _ _ _ hi] at hp ⊢
  have h4 : likeB l c i = true := like_iff.2 fun x hx => like_iff.1 hp x (by simp [hx])
  exact like_trans (like_symm h2) h4
/-- A new row without a class, above a bound. -/
def NewEB (B : Nat) (v : Value) (w : World) : Prop := ∃ b, v = .slice (some ⟨b, 0, none⟩) 0 0 ∧ Blk w b #[] 29 ∧ B ≤ b
theorem NewEB.later (B : Nat) (v : Value) (w w' : World) (h : NewEB B v w) (hb : Below w.heap.size w w') : NewEB B v w' := by
  obtain ⟨b, hv, hk, hB⟩ := h
  exact ⟨b, hv, hk.later hb, hB⟩
def OwnVB (B : Nat) (l : List (BitVec 256)) (v : Value) (w : World) : Prop := OwnC w B v l ∧ B ≤ w.heap.size
theorem OwnVB.later (B : Nat) (l : List (BitVec 256)) (v : Value) (w w' : World) (h : OwnVB B l v w) (hb : Below w.heap.size w w') : OwnVB B l v w' := ⟨h.1.later hb, Nat.le_trans h.2 hb.size⟩
theorem OwnC.baseB {w : World} {B B' : Nat} {v : Value} {l : List (BitVec 256)} (h : OwnC w B v l) (hB : B' ≤ B) : OwnC w B' v l := by
  obtain ⟨h1, h2 | ⟨g, cap, cur, q1, q2, q3⟩⟩ := h
  · exact ⟨h1, .inl h2⟩
  · exact ⟨h1, .inr ⟨g, cap, cur, q1, Nat.le_trans hB q2, q3⟩⟩
theorem run_append_zero (w : World) (b0 : Nat) (A : Option Addr) (cap : Nat) (t : TypeId) : (Builtin.append_ #[22, 22] t #[.slice (some ⟨b0, 0, none⟩) 0 0, .slice A 0 cap]).run Tryd.prog w = .ok (.slice (some ⟨b0, 0, none⟩) 0 0) w := by
  obtain ⟨ib, hib, hz0, hz1, hz2⟩ := info_parts infoCls
  cases A with
  | none => simp [Builtin.append_, run_underlying Tryd.underlying22, sizeOf, typeInfo, hib, Builtin.lenOf, Builtin.firstCells, storeCells]
  | some x =>
    have hf := run_firstCells_some (P := Tryd.prog) w ib.size 0 x 0 cap [] (by simp) (by simp)
    simp [Builtin.append_, run_underlying Tryd.underlying22, sizeOf, typeInfo, hib, Builtin.lenOf, hf, storeCells]
theorem wp_append_freshB {w : World} {o : Oper} {a : Act} {K : Act → World → Prop} {Q : Exit → Act → World → Prop} (s x : Operand)
    (ho : o.op = .call { callee := .builtin .append, args := #[s, x], argTypes := #[22, 22] })
    (B b0 : Nat) (hB : B ≤ b0) (hBw : B ≤ w.heap.size) (hs : a.eval s = .slice (some ⟨b0, 0, none⟩) 0 0) (hnew : Blk w b0 #[] 29)
    (l : List (BitVec 256)) (A : Option Addr) (cap : Nat) (hx : a.eval x = .slice A l.length cap) (hr : LRow w A l) (hlen : l.length < 1073741824)
    (h : ∀ v' w', OwnC w' B v' l → Below w.heap.size w w' → K (a.put o.dst v') w') : o.wp Tryd.prog a w K Q := by
  by_cases hne : 0 < l.length
  · exact wp_append_fresh s x ho b0 hs hnew l A cap hx hr hne hlen fun v' w' h1 h2 => h v' w' (h1.baseB hBw) h2
  · have hl : l = [] := List.length_eq_zero_iff.1 (by omega)
    subst hl
    have hrun := run_append_zero w b0 A cap o.type
    unfold Oper.wp execOp
    simp only [ho, resolve, invoke, builtin, Sem.run_bind, Sem.run_pure, Result.andThen_ok, List.map_toArray, List.map_cons, List.map_nil, hs, hx, List.length_nil, hrun]
    exact h _ _ ⟨rfl, .inr ⟨b0, 0, #[], rfl, hB, hnew, Nat.le_refl _, Nat.zero_le _, rfl, rfl⟩⟩ (Below.refl _ _)
structure MorS (w0 : World) (A C : Option Addr) (l : List (BitVec 256)) (ba : Nat) (a : BitVec 256) (w : World) : Prop where
  below : Below w0.heap.size w0 w
  deb : Deb w
  row : LRow w A l
  prow : LRow w C (partsL l)
  box : Blk w ba (cells4 a) 29
theorem MorS.later {w0 w w' : World} {A C : Option Addr} {l : List (BitVec 256)} {ba : Nat} {a : BitVec 256} (h : MorS w0 A C l ba a w) (hb : Below w.heap.size w w') : MorS w0 A C l ba a w' :=
  ⟨h.below.trans (hb.mono h.below.size), h.deb.below hb, h.row.later hb, h.prow.later hb, h.box.later hb⟩
structure MorB (B : Nat) (wE : World) (w0 : World) (A C : Option Addr) (l : List (BitVec 256)) (ba : Nat) (a : BitVec 256) (w : World) : Prop where
  s : MorS w0 A C l ba a w
  le : B ≤ w.heap.size
  bel : Below B wE w
theorem MorB.later {B : Nat} {wE : World} {w0 w w' : World} {A C : Option Addr} {l : List (BitVec 256)} {ba : Nat} {a : BitVec 256} (h : MorB B wE w0 A C l ba a w) (hb : Below w.heap.size w w') : MorB B wE w0 A C l ba a w' := ⟨h.s.later hb, Nat.le_trans h.le hb.size, h.bel.trans (hb.mono h.le)⟩
structure MorQ (w0 : World) (C D : Option Addr) (P Q : List (BitVec 256)) (w : World) : Prop where
  below : Below w0.heap.size w0 w
  prow : LRow w C P
  qrow : LRow w D Q
theorem MorQ.later {w0 w w' : World} {C D : Option Addr} {P Q : List (BitVec 256)} (h : MorQ w0 C D P Q w) (hb : Below w.heap.size w w') : MorQ w0 C D P Q w' := ⟨h.below.trans (hb.mono h.below.size), h.prow.later hb, h.qrow.later hb⟩
def MorL (w0 : World) (C D : Option Addr) (P Q : List (BitVec 256)) (M : Nat) (i : Value) (w : World) : Prop := ∃ k : Nat, k ≤ M ∧ i = .int .i64 (k : Int) ∧ MorQ w0 C D P Q w
def MorF (w0 : World) (C D : Option Addr) (P Q : List (BitVec 256)) (N : Nat) (x : BitVec 256) (f i : Value) (w : World) : Prop := ∃ k : Nat, k ≤ N ∧ f = .bool (foundB P x k) ∧ i = .int .i64 (k : Int) ∧ MorQ w0 C D P Q w
def NewC1 (x : BitVec 256) (v : Value) (w : World) : Prop := ∃ b, v = .slice (some ⟨b, 0, none⟩) 1 1 ∧ Blk w b (cells4 x) 29
theorem NewC1.later (x : BitVec 256) (v : Value) (w w' : World) (h : NewC1 x v w) (hb : Below w.heap.size w w') : NewC1 x v w' := by obtain ⟨b, h1, h2⟩ := h; exact ⟨b, h1, h2.later hb⟩
set_option maxRecDepth 1000000 in
set_option maxHeartbeats 64000000 in
theorem splitmore_walk (l : List (BitVec 256)) (a : BitVec 256) (A : Option Addr) (c1 : Nat) (w : World) (hd : Deb w) (h1 : LRow w A l) (hA : l.length ≤ 9223372036854775807) :
    Calls Tryd.prog 4 #[.slice A l.length c1, cls a] w (Ans w (.bool true)) := by
  have hb0 := (Below.refl w.heap.size w).alloc (Nat.le_refl _) (.cells (cells4 a) 29)
  have HB0 := Lib.hid hb0
  have HD := Lib.hid (hd.below hb0)
  have HR := Lib.hid (h1.later hb0)
  have HX := Lib.hid (Blk.new w (cells4 a) 29)
  clear hd h1 hb0
  unfold cells4 at HB0 HD HR HX
  unfold cls
  go_enter Tryd.func4, Tryd.ntmps4
  go_upto_region 1 with (fail)
  generalize w.alloc (.cells #[.int .u64 (wd a 0), .int .u64 (wd a 1), .int .u64 (wd a 2), .int .u64 (wd a 3)] 29) = w1 at *
  have HX : Hid (Blk w1 w.heap.size (cells4 a) 29) := HX.out
  generalize hba : w.heap.size = ba at HX ⊢
  clear hba
  by_cases h8 : 10 < l.length
  · have h8n : (l.length : Int) > 10 := by omega
    go_wp2_with fail
    refine (awake2_any _ HD.out).mono ?_; rintro e w2 ⟨rfl, hb⟩
    go_wp2_with fail
    refine (awake2_any _ (HD.out.below hb)).mono ?_; rintro e w3 ⟨rfl, hb2⟩
    have HF := Lib.hid (HB0.out.trans ((hb.trans (hb2.mono hb.size)).mono HB0.out.size))
    clear hb hb2
    go_wp2
    go_ret
    exact ⟨rfl, HF.out⟩
  · have h8n : ¬ (l.length : Int) > 10 := by omega
    have hll : l.length < 1073741824 := by omega
    have hl10 : l.length ≤ 10 := by omega
    clear h8 hA
    go_wp2_with fail
    refine (awake2_any _ HD.out).mono ?_; rintro e w2 ⟨rfl, hb⟩
    have HB2 := Lib.hid hb
    clear hb
    go_wp2_with fail
    refine (parts_any l A c1 _ (HR.out.later HB2.out) (HD.out.below HB2.out) hll).mono ?_
    rintro e w3 ⟨v, rfl, ⟨C, cp, rfl, hrp⟩, hb3⟩
    have HS : Hid (MorS w A C l ba a w3) := ⟨(HB0.out.trans (HB2.out.mono HB0.out.size)).trans (hb3.mono (Nat.le_trans HB0.out.size HB2.out.size)), (HD.out.below HB2.out).below hb3, (HR.out.later HB2.out).later hb3, hrp, (HX.out.later HB2.out).later hb3⟩
    have HSB : Hid (MorB w3.heap.size w3 w A C l ba a w3) := ⟨HS.out, Nat.le_refl _, Below.refl _ _⟩
    clear hrp hb3 HX HR HB2 HB0 HD
    rw [parts_length]
    obtain ⟨N, hN⟩ : ∃ N, (headsL l).length = N := ⟨_, rfl⟩
    have HNP : Hid ((partsL l).length = N) := by unfold Hid; rw [parts_length]; exact hN
    have hNle := heads_le l
    rw [hN] at hNle
    rw [hN]
    obtain ⟨B, hB⟩ : ∃ B, w3.heap.size = B := ⟨_, rfl⟩
    rw [hB] at HSB
    go_upto_region 4 with (fail)
    refine wp_region_stable_tail 5 (S := (MorB B w3 w A C l ba a)) (hSt := fun _ _ h hb => h.later hb) (plan := [[], [(0, none)], [(20, some 0), (21, some 1)], [(3, none)], [(23, some 3)]]) rfl rfl (by kernel_rfl) (by kernel_rfl) (by kernel_rfl) (by kernel_rfl) ?hS ?_
    rotate_left
    (refine chain_rel (NewEB B) (NewEB.later B) (by rfl) ?_ ?_
     · intro act wx hS hr
       simp at hr
       have g1 := hS.s.box.cells
       all_goals go_simp
       exact Done.rel ((Below.refl _ _).alloc (Nat.le_refl _) _) ⟨_, rfl, Blk.new _ _ _, hS.le⟩
    )
    iterate 1 first
      | (refine chain_skip (by rfl) (by rfl) ?_)
      | (apply chain_want (by rfl)
         · intro act wx hS hr
           simp at hr
           have g1 := hS.s.box.cells
           go_simp
           (try go_ints)
           first
             | exact Done.same (v := cls _)
             | exact Done.same
        )
    (refine chain_rel (OwnVB B l) (OwnVB.later B l) (by rfl) ?_ ?_
     · intro act wx hS hr
       simp at hr
       have g1 := hS.s.box.cells
       obtain ⟨⟨v, hr2, b, rfl, hk, hBb⟩, hr3⟩ := hr
       refine wp_append_freshB (.tmp 20) (.tmp 21) rfl B b hBb hS.le (by simp [Act.eval, hr2]) hk l A c1 (by simp [Act.eval, hr3]) hS.s.row hll ?_
       intro v' w' q1 q2
       exact Done.rel q2 ⟨q1, Nat.le_trans hS.le q2.size⟩
       all_goals go_simp
    )
    iterate 1 first
      | (refine chain_skip (by rfl) (by rfl) ?_)
      | (apply chain_want (by rfl)
         · intro act wx hS hr
           simp at hr
           have g1 := hS.s.box.cells
           go_simp
           (try go_ints)
           first
             | exact Done.same (v := cls _)
             | exact Done.same
        )
    (refine chain_rel (NewC1 a) (NewC1.later a) (by rfl) ?_ ?_
     · intro act wx hS hr
       simp at hr
       have g1 := hS.s.box.cells
       all_goals go_simp
       exact Done.rel ((Below.refl _ _).alloc (Nat.le_refl _) _) ⟨_, rfl, Blk.new _ _ _⟩
    )
    show ∀ w', _ → _
    intro wz hz
    simp [Act.put]
    case hS => exact HSB.out
    intro v0 _ v2 hv2 v4 hv4
    obtain ⟨bn, rfl, hbk⟩ := hv4
    refine wpList_append_cls rfl (.tmp 22) (.tmp 24) rfl B v2 l rfl hv2.1 bn a rfl hbk hll hv2.2 ?_
    intro v' w4 ho4 hb4
    have HS4 : Hid (MorS w A C l ba a w4) := HS.out.later (by rw [hB]; exact hz.bel.trans (hb4 _ (Nat.le_refl _)))
    have HT4 := Lib.hid ho4.isRow
    have hlen2 : (l ++ [a]).length < 1073741824 := by rw [List.length_append]; simp; omega
    clear hz hv2 hbk ho4 hb4 HS hB HSB
    simp [Act.put]
    go_simp
    go_wp2_with fail
    refine (parts_row (l ++ [a]) _ _ HT4.out HS4.out.deb hlen2).mono ?_
    rintro e w5 ⟨v5, rfl, ⟨D, cq, rfl, hrq⟩, hb5⟩
    rw [parts_length]
    obtain ⟨M, hM⟩ : ∃ M, (headsL (l ++ [a])).length = M := ⟨_, rfl⟩
    have HMP : Hid ((partsL (l ++ [a])).length = M) := by unfold Hid; rw [parts_length]; exact hM
    have hMle := heads_le (l ++ [a])
    have hml := more_len l a
    rw [hM] at hMle hml
    rw [hN] at hml
    rw [hM]
    have HS5 := Lib.hid (HS4.out.later hb5)
    have HRQ := Lib.hid hrq
    have HRF := Lib.hid (refine_parts l a)
    have HFA : Hid (∀ Q, Q ∈ partsL (l ++ [a]) → foundB (partsL l) Q (partsL l).length = true) := fun Q hQ => found_all hQ
    clear hb5 hrq HS4 HT4 hM hN
    have hlt1 : ¬ ((M : Int) < (N : Int)) := by omega
    have hgt1 : ¬ ((M : Int) > 2 * (N : Int)) := by omega
    have hn0 : (0 : Int) ≤ 2 * (N : Int) := by omega
    have hn1 : 2 * (N : Int) ≤ 512 := by omega
    have g1 := HS5.out.box.cells
    have hpl : (partsL l).length < 268435456 := by rw [HNP.out]; omega
    have hql2 : (partsL (l ++ [a])).length < 1073741824 := by rw [HMP.out]; omega
    have FRF : Hid (∀ w', MorS w A C l ba a w' → Calls Tryd.prog 18 #[.slice C N cp, cls a] w' (AnsRow w' (partsL (l ++ [a])))) := fun w' h => by
      have := refine_any (partsL l) C cp a w' h.prow h.deb hpl
      rwa [HRF.out, HNP.out] at this
    have hr6 : IsRow (partsL (l ++ [a])) (.slice D M cq) w5 := ⟨D, cq, by rw [HMP.out], HRQ.out⟩
    have HR6 := Lib.hid hr6
    clear hr6
    generalize partsL (l ++ [a]) = QL at *
    generalize hPL : partsL l = PL at *
    have HPL := Lib.hid hPL
    clear hPL
    go_wp2_with fail
    refine (FRF.out _ HS5.out).mono ?_
    rintro e w6 ⟨v6, rfl, hv6, hb6⟩
    have HS6 := Lib.hid (HS5.out.later hb6)
    have HR7 := Lib.hid (IsRow.later _ _ _ _ HR6.out hb6)
    have HV6 := Lib.hid hv6
    clear hb6 hv6 HS5 HR6 g1
    go_wp2_with fail
    refine (same_row QL QL _ _ _ HR7.out HV6.out hql2 hql2).mono ?_
    rintro e w7 ⟨rfl, hb7⟩
    rw [beq_self_eq_true]
    have HQ : Hid (MorQ w C D PL QL w7) := ⟨HS6.out.below.trans (hb7.mono HS6.out.below.size), by rw [← HPL.out]; exact HS6.out.prow.later hb7, by
      obtain ⟨a', c', e', h'⟩ := HR7.out
      cases e'; exact h'.later hb7⟩
    clear hb7 HS6 HR7 HV6
    have hlt2 : ¬ (M < N) := by omega
    go_wp2
    have heq := eql_cls
    have hge := eqGuard_eql
    clear hn0 hn1 hml hlt1 hgt1 hlt2
    go_loopw [7] (MorL w C D PL QL M) (fun i _ => M - (intOf i).toNat)
    case atStart => exact ⟨0, Nat.zero_le _, rfl, HQ.out⟩
    case round =>
      obtain ⟨k, hk, rfl, hS⟩ := hrel
      have HK := Lib.hid hS
      clear hS HQ
      by_cases hkl : k < M
      · have hkz : (k : Int) < (M : Int) := by omega
        have hkq : k < QL.length := by rw [HMP.out]; exact hkl
        obtain ⟨bD, oD, hD1, -⟩ := HK.out.qrow.cells k hkq
        subst hD1
        have F1 : Hid (∀ w, LRow w (some ⟨bD, oD, none⟩) QL → At w bD (oD + k * 4) (QL.getD k 0)) := fun w h => h.at k _ hkq rfl
        have hmem : QL.getD k 0 ∈ QL := by simp [hkq]
        have HF := Lib.hid (HFA.out _ hmem)
        clear hmem
        generalize QL.getD k 0 = X at *
        go_wp2
        generalize wr = wB at *
        go_loopw [8, 9] (MorF w C (some ⟨bD, oD, none⟩) PL QL N X) (fun _ i _ => N - (intOf i).toNat)
        case atStart => exact ⟨0, Nat.zero_le _, by unfold foundB; simp, rfl, HK.out⟩
        case round =>
          obtain ⟨j, hj, rfl, rfl, hS⟩ := hrel
          have HM := Lib.hid hS
          clear hS HK
          by_cases hjl : j < N
          · have hjz : (j : Int) < (N : Int) := by omega
            have hjp : j < PL.length := by rw [HNP.out]; exact hjl
            obtain ⟨bC, oC, hC1, -⟩ := HM.out.prow.cells j hjp
            subst hC1
            have F2 : Hid (∀ w, LRow w (some ⟨bC, oC, none⟩) PL → At w bC (oC + j * 4) (PL.getD j 0)) := fun w h => h.at j _ hjp rfl
            have HFS := Lib.hid (found_succ (Q := X) hjp)
            generalize PL.getD j 0 = Y at *
            have FB : Hid (∀ w', Calls Tryd.prog 12 #[cls X, cls Y] w' (Ans w' (cls (X &&& Y)))) := fun w' => refboth_any X Y w'
            generalize X &&& Y = Z at *
            generalize foundB PL X j = fd at *
            cases fd with
            | true =>
              go_upto_region 14 with (fail)
              refine wp_region_stable (S := (MorQ w (some ⟨bC, oC, none⟩) (some ⟨bD, oD, none⟩) PL QL)) (hSt := fun _ _ h hb => h.later hb) (plan := [[(8, none)], [(60, some 0)], [(6, none)], [(7, none)], [(62, some 2), (63, some 3)], [(64, some 4)], [(5, none)], [(9, none)], [(66, some 6), (67, some 7)], [(68, some 8)], [(65, some 5), (69, some 9)], [(6, none)], [(7, none)], [(71, some 11), (72, some 12)], [(73, some 13)], [(70, some 10), (74, some 14)], [(61, some 1), (75, some 15)], [(76, some 16)]]) (by kernel_rfl) (by kernel_rfl) (by kernel_rfl) ?hS ?_
              rotate_left
              iterate 18 first
                | (refine chain_skip (by rfl) (by rfl) ?_)
                | (apply chain_want (by rfl)
                   · intro act wx hS hr
                     simp at hr
                     have g1 := F1.out _ hS.qrow
                     unfold At at g1
                     have g2 := F2.out _ hS.prow
                     unfold At at g2
                     go_simp
                     (try go_ints)
                     first
                       | exact Done.same (v := cls _)
                       | ((with_reducible refine (FB.out _).mono ?_); rintro e w' ⟨rfl, hb⟩; exact Done.mk (v := cls Z) hb)
                       | exact Done.same
                  )
              show ∀ w', _ → _
              intro wv hv
              simp [Act.put]
              case hS => exact HM.out
              have HV := Lib.hid hv
              clear hv HM
              go_wp2
              go_roundw
              case rel => exact ⟨j + 1, by omega, by rw [HFS.out] <;> rfl, by go_num, HV.out⟩
              case measure => simp [intOf]; omega
            | false =>
              go_upto_region 14 with (fail)
              refine wp_region_stable (S := (MorQ w (some ⟨bC, oC, none⟩) (some ⟨bD, oD, none⟩) PL QL)) (hSt := fun _ _ h hb => h.later hb) (plan := [[(8, none)], [(60, some 0)], [(6, none)], [(7, none)], [(62, some 2), (63, some 3)], [(64, some 4)], [(5, none)], [(9, none)], [(66, some 6), (67, some 7)], [(68, some 8)], [(65, some 5), (69, some 9)], [(6, none)], [(7, none)], [(71, some 11), (72, some 12)], [(73, some 13)], [(70, some 10), (74, some 14)], [(61, some 1), (75, some 15)], [(76, some 16)]]) (by kernel_rfl) (by kernel_rfl) (by kernel_rfl) ?hS ?_
              rotate_left
              iterate 18 first
                | (refine chain_skip (by rfl) (by rfl) ?_)
                | (apply chain_want (by rfl)
                   · intro act wx hS hr
                     simp at hr
                     have g1 := F1.out _ hS.qrow
                     unfold At at g1
                     have g2 := F2.out _ hS.prow
                     unfold At at g2
                     go_simp
                     (try go_ints)
                     first
                       | exact Done.same (v := cls _)
                       | ((with_reducible refine (FB.out _).mono ?_); rintro e w' ⟨rfl, hb⟩; exact Done.mk (v := cls Z) hb)
                       | exact Done.same
                  )
              show ∀ w', _ → _
              intro wv hv
              simp [Act.put]
              case hS => exact HM.out
              have HV := Lib.hid hv
              clear hv HM
              go_wp2
              go_roundw
              case rel => exact ⟨j + 1, by omega, by rw [HFS.out] <;> rfl, by go_num, HV.out⟩
              case measure => simp [intOf]; omega
          · obtain rfl : j = N := by omega
            have hjz : ¬ (j : Int) < (j : Int) := by omega
            have hf : foundB PL X j = true := by have := HF.out; rwa [HNP.out] at this
            rw [hf]
            clear hf
            go_wp2
            go_roundw
            case rel => exact ⟨k + 1, by omega, by go_num, HM.out⟩
            case measure => simp [intOf]; omega
      · obtain rfl : k = M := by omega
        have hkz : ¬ (k : Int) < (k : Int) := by omega
        have HFI := Lib.hid HK.out.below
        go_wp2
        go_ret
        exact ⟨rfl, HFI.out⟩
end Go.Proofs.YtgehepiphdphjaaDoor
