/- The document's Same of tokens; a row of tokens appended: walked. -/
import Derived.Test.YtgehepiphdphjaaDoorLexAwake
namespace Go.Proofs.YtgehepiphdphjaaDoor
open Go Go.RowKit
set_option linter.unusedVariables false
set_option linter.unusedSimpArgs false

set_option maxHeartbeats 8000000 in
set_option maxRecDepth 100000 in
theorem refsame3_any (a b : List Tok) (A B : Option Addr) (c1 c2 : Nat) (w : World) (ha : TRow w A a) (hb : TRow w B b) (h1 : a.length ≤ 1073741824) (h2 : b.length ≤ 1073741824) :
    Calls Tryd.prog 22 #[.slice A a.length c1, .slice B b.length c2] w (Ans w (.bool (decide (a = b)))) := by
  have HE : Hid (EqT w A B a b w) := ⟨Below.refl _ _, ha, hb⟩
  clear ha hb
  by_cases hl : a.length = b.length
  · have hlz : ((a.length : Int) != (b.length : Int)) = false := by rw [bne_eq_false_iff_eq]; omega
    have HA := Lib.hid (likeT_all hl)
    have HL := Lib.hid hl
    obtain ⟨v, hv⟩ : ∃ v, decide (a = b) = v := ⟨_, rfl⟩
    have HV := Lib.hid hv
    rw [hv]
    clear hl hv
    go_enter Tryd.func22, Tryd.ntmps22
    go_wp2
    go_loopw [5] (EqL w A B a b) (fun i _ => a.length - (intOf i).toNat)
    case atStart => exact ⟨0, Nat.zero_le _, rfl, rfl, HE.out⟩
    case round =>
      obtain ⟨k, hk, rfl, hlk, hs⟩ := hrel
      have HLK := Lib.hid hlk
      have HS := Lib.hid hs
      by_cases hlt : k < a.length
      · have hltz : (k : Int) < (a.length : Int) := by omega
        have hkb : k < b.length := by rw [← HL.out]; exact hlt
        have hkbz : (k : Int) < (b.length : Int) := by omega
        obtain ⟨ba, oa, rfl, -, -⟩ := hs.ra k hlt
        obtain ⟨bb, ob, rfl, -, -⟩ := hs.rb k hkb
        have FA := Lib.hid (fun (w' : World) (h : TRow w' (some ⟨ba, oa, none⟩) a) => h.at hlt rfl)
        have FB := Lib.hid (fun (w' : World) (h : TRow w' (some ⟨bb, ob, none⟩) b) => h.at hkb rfl)
        have HSUC := Lib.hid (likeT_succ a b k)
        clear hs hlk
        generalize a.getD k tok0 = x at *
        generalize b.getD k tok0 = y at *
        go_upto_region 6 with (fail)
        refine wp_region_stable (S := (EqT w (some ⟨ba, oa, none⟩) (some ⟨bb, ob, none⟩) a b)) (hSt := fun _ _ h hb => h.later hb) (plan := [[(0, none)], [(5, none)], [(17, some 0), (18, some 1)], [(19, some 2)], [(1, none)], [(5, none)], [(21, some 4), (22, some 5)], [(23, some 6)], [(20, some 3), (24, some 7)]]) (by kernel_rfl) (by kernel_rfl) (by kernel_rfl) ?hS ?_
        rotate_left
        iterate 9 first
          | (refine chain_skip (by rfl) (by rfl) ?_)
          | (apply chain_want (by rfl)
             · intro act wx hS hr
               simp at hr
               have g := FA.out _ hS.ra
               have k := FB.out _ hS.rb
               have hq := fun w => neq_tok x y w
               have hg := fun o1 o2 w => eqGuard_neq_tok o1 o2 x y w
               unfold At9 at g k
               go_simp
               (try go_ints)
               first
                 | exact Done.same (v := .agg (tokC x))
                 | exact Done.same (v := .agg (tokC y))
                 | exact Done.same
            )
        show ∀ w', _ → _
        intro wz hz
        simp [Act.put]
        case hS => exact HS.out
        have HZ := Lib.hid hz
        clear hz
        by_cases hxy : x = y
        · have hd : decide (x = y) = true := decide_eq_true hxy
          rw [hd] at HSUC ⊢
          have HN : Hid (likeT a b (k + 1) = true) := by unfold Hid; rw [HSUC.out, HLK.out]; rfl
          clear hxy hd
          go_wp2
          go_roundw
          case rel => exact ⟨k + 1, by omega, by go_num, HN.out, HZ.out⟩
          case measure => simp [intOf]; omega
        · have hd : decide (x = y) = false := decide_eq_false hxy
          have HF : Hid (v = false) := by
            unfold Hid; rw [← HV.out, ← HA.out]
            have hle : likeT a b (k + 1) = false := by rw [HSUC.out, hd]; simp
            unfold likeT at hle ⊢
            rw [List.all_eq_false] at hle ⊢
            obtain ⟨i, hi, h2⟩ := hle
            exact ⟨i, List.mem_range.2 (by have := List.mem_range.1 hi; omega), h2⟩
          rw [hd]
          clear hxy hd
          go_wp2
          go_ret
          exact ⟨by rw [HF.out]; rfl, HZ.out.bel⟩
      · obtain rfl : k = a.length := by omega
        have HF : Hid (v = true) := by unfold Hid; rw [← HV.out, ← HA.out]; exact hlk
        clear hs hlk
        go_wp2
        go_ret
        exact ⟨by rw [HF.out]; rfl, HS.out.bel⟩
  · have hlz : ((a.length : Int) != (b.length : Int)) = true := by rw [bne_iff_ne]; omega
    have hv : decide (a = b) = false := by rw [decide_eq_false_iff_not]; rintro rfl; exact hl rfl
    rw [hv]
    clear hl hv
    go_enter Tryd.func22, Tryd.ntmps22
    go_wp2
    go_ret
    exact ⟨rfl, HE.out.bel⟩
theorem flat9_one (t : Tok) : ∀ u ∈ (tokC t).toList, u.oneCell' = true := by
  intro u hu
  simp only [tokC, List.mem_cons, List.not_mem_nil, or_false] at hu
  rcases hu with rfl | rfl | rfl | rfl | rfl | rfl | rfl | rfl | rfl <;> rfl
theorem flat9_ones : ∀ (l : List Tok), ∀ u ∈ flat9 l, u.oneCell' = true
  | [], u, h => by cases h
  | t :: l, u, h => by
    unfold flat9 at h
    rcases List.mem_append.1 h with h | h
    · exact flat9_one t u h
    · exact flat9_ones l u h
set_option maxRecDepth 100000 in
theorem wpList_append_trow {w : World} {ops : Array Oper} {rest : List Oper} {o : Oper} {a : Act} {Q : Exit → Act → World → Prop} (hgd : o.guard = none) (s x : Operand)
    (ho : o.op = .call { callee := .builtin .append, args := #[s, x], argTypes := #[39, 39] })
    (base : Nat) (v : Value) (l : List Tok) (hs : a.eval s = v) (hown : OwnT w base v l)
    (b oo c : Nat) (r : List Tok) (hx : a.eval x = .slice (some ⟨b, oo, none⟩) r.length c) (hr : TRow w (some ⟨b, oo, none⟩) r) (hlen : l.length + r.length < 1073741824) (hbase : base ≤ w.heap.size)
    (h : ∀ v' w', OwnT w' base v' (l ++ r) → (∀ B, B ≤ base → Below B w w') → wpList Tryd.prog ops Q rest (a.put o.dst v') w') : wpList Tryd.prog ops Q (o :: rest) a w := by
  obtain ⟨ib, hib, hz0, hz1, hz2⟩ := info_parts infoTok
  have hnews : ∀ (j : Nat) (u : Value), (flat9 r)[j]? = some u → w.cell? ((⟨b, oo, none⟩ : Addr).add j) = some u := by
    intro j u hu
    have hadd : (⟨b, oo, none⟩ : Addr).add j = ⟨b, oo + j, none⟩ := by unfold Addr.add; split <;> simp_all
    have hj : j < r.length * 9 := by
      rw [← flat9_length]; exact (List.getElem?_eq_some_iff.1 hu).1
    obtain ⟨b', o', h1, _, h3⟩ := hr (j / 9) (by omega)
    cases h1
    have := h3 (j % 9) (by omega)
    rw [← flat9_get r (j / 9) (j % 9) (by omega) (by omega), show j / 9 * 9 + j % 9 = j by omega, hu] at this
    rw [hadd, ← this]; congr 2; omega
  obtain ⟨v', w', hr2, h2, h3, _⟩ := run_append_own (P := Tryd.prog) w base 39 o.type 71 ib _ 9 80 Tryd.underlying39 hib hz0 hz1 hz2 rfl (by decide) v l.length (flat9 l) hown ⟨b, oo, none⟩ r.length c (flat9 r) (flat9_length r) hnews (flat9_ones r) (by unfold maxLen; omega) (by omega) hbase
  have h2' : OwnT w' base v' (l ++ r) := by unfold OwnT; rw [List.length_append, flat9_append]; exact h2
  refine wpList_plain hgd fun K hK => ?_
  unfold Oper.wp execOp
  simp only [ho, resolve, invoke, builtin, Sem.run_bind, Sem.run_pure, Result.andThen_ok, List.map_toArray, List.map_cons, List.map_nil, hs, hx, hr2]
  exact hK _ _ (h v' w' h2' fun B hB => (Below.refl B w).grown h3 (Nat.le_trans hB hbase) fun k hk => Nat.le_trans hB ((World.ownsRow.lt hown k hk).1))
theorem OwnT.empty {w : World} {base b : Nat} (h : Blk w b #[] 71) (hb : base ≤ b) : OwnT w base (.slice (some ⟨b, 0, none⟩) 0 0) [] :=
  ⟨rfl, .inr ⟨b, 0, #[], rfl, hb, h, Nat.le_refl _, Nat.zero_le _, rfl, rfl⟩⟩
end Go.Proofs.YtgehepiphdphjaaDoor
