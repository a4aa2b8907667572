/- The statement LexOn of layer 3, walked. -/
import Derived.Test.YthiibpabdkkknaaDoorLexSpacesW
import Derived.Test.YthiibpabdkkknaaDoorLexRSame
namespace Go.Proofs.YthiibpabdkkknaaDoor
open Go Go.RowKit
set_option linter.unusedVariables false
set_option linter.unusedSimpArgs false

structure OnW (w0 w : World) : Prop where
  bel : Below w0.heap.size w0 w
  u8 : U8T w
theorem OnW.later {w0 w w' : World} (h : OnW w0 w) (hb : Below w.heap.size w w') : OnW w0 w' := ⟨h.bel.trans (hb.mono h.bel.size), h.u8.later hb⟩
structure OnR (w0 : World) (A : Option Addr) (r : List Tok) (B : Option Addr) (q : List Tok) (w : World) : Prop where
  s : OnW w0 w
  x : TRow w A r
  y : TRow w B q
theorem OnR.later {w0 w w' : World} {A B : Option Addr} {r q : List Tok} (h : OnR w0 A r B q w) (hb : Below w.heap.size w w') : OnR w0 A r B q w' := ⟨h.s.later hb, h.x.later hb, h.y.later hb⟩
def OnG (w0 : World) (A : Option Addr) (r : List Tok) (B : Option Addr) (q : List Tok) (l : List UInt8) (g : Nat) (n s i : Value) (w : World) : Prop :=
  ∃ j : Nat, j ≤ g ∧ s = .string (bs (l ++ List.replicate (j + 1) 32)) ∧ n = .int .i64 (((l.length + 1 + j : Nat)) : Int) ∧ i = .int .i64 (j : Int) ∧ OnR w0 A r B q w
theorem on_kinds {l : List UInt8} {e q : Nat} (h : readL l 0 0 = .error (e, q)) : ((e : Int) != 0) = true ∧ ((e : Int) == 0) = false := by
  obtain ⟨_, _, _, f4, _, _⟩ := readL_fault l 0 0 e q (Nat.zero_le _) h
  exact ⟨by rw [bne_iff_ne]; omega, by rw [beq_eq_false_iff_ne]; omega⟩
theorem on_pos {l : List UInt8} {r : List Tok} (h : readL l 0 0 = .ok r) (hl : l.length ≤ 1000) : 0 < r.length ∧ r.length ≤ 1001 ∧ ∀ i, i < r.length → (r.getD i tok0).at_ ≤ 1000 := by
  have hw := readL_whole l 0 0 r (Nat.zero_le _) h
  have hpos : 0 < r.length := List.length_pos_iff.2 hw.ne
  obtain ⟨n', hn'⟩ : ∃ n', r.length = n' + 1 := ⟨r.length - 1, by omega⟩
  have := whole_len hw hn'
  refine ⟨hpos, by omega, fun i hi => ?_⟩
  have := (spaces_read h (k := i) (t := r.getD i tok0) (by rw [List.getD_eq_getElem?_getD, List.getElem?_eq_getElem hi]; rfl) 0).1
  omega
theorem OwnT.setCell_ne2 {w : World} {base : Nat} {s : Value} {l : List Tok} (h : OwnT w base s l) {a : Addr} (ha : ∀ k, s.ownBlock = some k → k ≠ a.block) (v : Value) : OwnT (w.setCell a v) base s l := by
  obtain ⟨h0, ⟨hv, hn⟩ | ⟨g, cap, cur, hv, hb, hg, hr⟩⟩ := h
  · exact ⟨h0, .inl ⟨hv, hn⟩⟩
  · refine ⟨h0, .inr ⟨g, cap, cur, hv, hb, ?_, hr⟩⟩
    have : Blk w g cur 48 := hg
    exact this.setCell_ne (a := a) (Ne.symm (ha g (by rw [hv]; rfl))) v
structure OnT (w0 : World) (base b2 o2 b3 o3 : Nat) (q R : List Tok) (v : Value) (L : List Tok) (w : World) : Prop where
  bel : Below w0.heap.size w0 w
  own : OwnT w base v L
  y : TRow w (some ⟨b2, o2, none⟩) q
  z : TRow w (some ⟨b3, o3, none⟩) R
  low : base ≤ w.heap.size
  l0 : w0.heap.size ≤ base
  l2 : b2 < base
  l3 : b3 < base
theorem OnT.later {w0 w w' : World} {base b2 o2 b3 o3 : Nat} {q R L : List Tok} {v : Value} (h : OnT w0 base b2 o2 b3 o3 q R v L w) (hb : Below w.heap.size w w') : OnT w0 base b2 o2 b3 o3 q R v L w' :=
  ⟨h.bel.trans (hb.mono h.bel.size), h.own.later hb, h.y.later hb, h.z.later hb, Nat.le_trans h.low hb.size, h.l0, h.l2, h.l3⟩
theorem OnT.grow {w0 w w' : World} {base b2 o2 b3 o3 : Nat} {q R L L' : List Tok} {v v' : Value} (h : OnT w0 base b2 o2 b3 o3 q R v L w) (hb : Below base w w') (ho : OwnT w' base v' L') : OnT w0 base b2 o2 b3 o3 q R v' L' w' :=
  ⟨h.bel.trans (hb.mono h.l0), ho, trow_below h.y h.l2 hb, trow_below h.z h.l3 hb, Nat.le_trans h.low hb.size, h.l0, h.l2, h.l3⟩
def OnA (w0 : World) (base b2 o2 b3 o3 : Nat) (q R D : List Tok) (N n : Nat) (v i : Value) (w : World) : Prop :=
  ∃ k : Nat, k ≤ n ∧ i = .int .i64 (k : Int) ∧ OnT w0 base b2 o2 b3 o3 q R v (D ++ (q.take k).map (Tok.shift N)) w
theorem refsame3_n {a b : List Tok} {n m : Nat} (hn : a.length = n) (hm : b.length = m) (A B : Option Addr) (c1 c2 : Nat) (w : World) (ha : TRow w A a) (hb : TRow w B b) (h1 : a.length ≤ 1073741824) (h2 : b.length ≤ 1073741824) :
    Calls Tryd.prog 27 #[.slice A n c1, .slice B m c2] w (Ans w (.bool (decide (a = b)))) := by
  subst hn hm; exact refsame3_any a b A B c1 c2 w ha hb h1 h2
theorem trow_cut {w : World} {A : Option Addr} {r : List Tok} (h : TRow w A r) : TRow w A r.dropLast := fun i hi => by
  rw [List.length_dropLast] at hi
  have e : r.dropLast.getD i tok0 = r.getD i tok0 := by
    rw [List.getD_eq_getElem?_getD, List.getD_eq_getElem?_getD, List.getElem?_dropLast, if_pos hi]
  rw [e]; exact h i (by omega)
theorem on_both {l m F : List UInt8} {r : List Tok} {j N : Nat} (h : readL l 0 0 = .ok r) (hF : F = l ++ List.replicate (j + 1) 32) (hN : N = l.length + 1 + j) :
    readL (F ++ m) 0 0 = (shiftR N (readL m 0 0)).map (r.dropLast ++ ·) := by
  rw [hF, List.append_assoc, on_read h (j + 1) m, hN, show l.length + 1 + j = l.length + (j + 1) by omega]
set_option maxHeartbeats 16000000 in
set_option maxRecDepth 1000000 in
theorem lexon_walk (l m : List UInt8) (c : Nat) (hc : c < 256) (w : World) (hT : U8T w) (hl : l.length ≤ 9223372036854775807) (hm : m.length ≤ 9223372036854775807) :
    Calls Tryd.prog 6 #[.string (bs l), .string (bs m), .int .u8 (c : Int)] w (Ans w (.bool true)) := by
  have HT := Lib.hid hT
  clear hT
  go_enter Tryd.func6, Tryd.ntmps6
  by_cases h3 : 1000 < l.length
  · have hz : ((bs l).size : Int) > 1000 := by rw [bs_size]; omega
    go_wp2_with fail
    refine (awake3_any _ HT.out).mono ?_; rintro e w1 ⟨rfl, hb⟩
    go_wp2_with fail
    refine (awake3_any _ (HT.out.later hb)).mono ?_; rintro e w2 ⟨rfl, hb2⟩
    have HF := Lib.hid (hb.trans (hb2.mono hb.size))
    clear hb hb2
    go_wp2
    go_ret
    exact ⟨rfl, HF.out⟩
  · have hz : ¬ ((bs l).size : Int) > 1000 := by rw [bs_size]; omega
    by_cases h4 : 1000 < m.length
    · have hz2 : ((bs m).size : Int) > 1000 := by rw [bs_size]; omega
      go_wp2_with fail
      refine (awake3_any _ HT.out).mono ?_; rintro e w1 ⟨rfl, hb⟩
      go_wp2_with fail
      refine (awake3_any _ (HT.out.later hb)).mono ?_; rintro e w2 ⟨rfl, hb2⟩
      have HF := Lib.hid (hb.trans (hb2.mono hb.size))
      clear hb hb2
      go_wp2
      go_ret
      exact ⟨rfl, HF.out⟩
    · have hz2 : ¬ ((bs m).size : Int) > 1000 := by rw [bs_size]; omega
      have L1 : Hid (l.length ≤ 1000) := by unfold Hid; omega
      have L2 : Hid (m.length ≤ 1000) := by unfold Hid; omega
      have HL1 : Hid (l.length ≤ 1073741823) := by unfold Hid; omega
      have HL2 : Hid (m.length ≤ 1073741823) := by unfold Hid; omega
      go_wp2_with fail
      refine (awake3_any _ HT.out).mono ?_; rintro e w1 ⟨rfl, hb⟩
      have HU : Hid (OnW w w1) := ⟨hb, HT.out.later hb⟩
      clear hb h3 h4
      cases hr1 : readL l 0 0 with
      | error p =>
        obtain ⟨e1, q1⟩ := p
        have hez := (on_kinds hr1).1
        have HR1 := Lib.hid hr1
        clear hr1
        go_wp2_with fail
        refine (read_bad HR1.out _ HU.out.u8 HL1.out).mono ?_; rintro e w2 ⟨rfl, hb⟩
        have HU2 := Lib.hid (HU.out.later hb)
        clear hb
        cases hr2 : readL m 0 0 with
        | error p =>
          obtain ⟨e2, q2⟩ := p
          have HR2 := Lib.hid hr2
          clear hr2
          go_wp2_with fail
          refine (read_bad HR2.out _ HU2.out.u8 HL2.out).mono ?_; rintro e w3 ⟨rfl, hb⟩
          have HU3 := Lib.hid (HU2.out.later hb)
          clear hb
          go_wp2
          go_ret
          exact ⟨rfl, HU3.out.bel⟩
        | ok r2 =>
          have HR2 := Lib.hid hr2
          clear hr2
          go_wp2_with fail
          refine (read_ok HR2.out _ HU2.out.u8 HL2.out).mono ?_; rintro e w3 ⟨A2, c2, rfl, -, hb⟩
          have HU3 := Lib.hid (HU2.out.later hb)
          clear hb
          go_wp2
          go_ret
          exact ⟨rfl, HU3.out.bel⟩
      | ok r1 =>
        obtain ⟨hp1, hn1, _⟩ := on_pos hr1 L1.out
        obtain ⟨n1, hnn1⟩ : ∃ n1, r1.length = n1 + 1 := ⟨r1.length - 1, by omega⟩
        have HN1 := Lib.hid hnn1
        have HR1 := Lib.hid hr1
        have HP1 : Hid (0 < r1.length ∧ n1 ≤ 1000) := by unfold Hid; omega
        clear hr1 hp1 hn1 hnn1
        go_wp2_with fail
        refine (read_okc HR1.out HN1.out _ HU.out.u8 HL1.out).mono ?_; rintro e w2 ⟨A1, c1, rfl, hx1, hb, hcp⟩
        have HCP : Hid (n1 ≤ c1) := Nat.le_of_succ_le hcp
        clear hcp
        obtain ⟨b1, o1, rfl, -, -⟩ := hx1 0 HP1.out.1
        have HU2 := Lib.hid (HU.out.later hb)
        have HX1 := Lib.hid hx1
        clear hb hx1
        have hnz : (((n1 + 1 : Nat) : Int) == 0) = false := by rw [beq_eq_false_iff_ne]; omega
        cases hr2 : readL m 0 0 with
        | error p =>
          obtain ⟨e2, q2⟩ := p
          have hez := (on_kinds hr2).1
          have hq2 : q2 ≤ 1000 := by
            obtain ⟨_, _, _, f4, f5, f6⟩ := readL_fault m 0 0 e2 q2 (Nat.zero_le _) hr2
            have := L2.out; omega
          have HR2 := Lib.hid hr2
          have HC0 : Hid (bs l ++ ⟨#[32]⟩ = bs (l ++ List.replicate (0 + 1) 32)) := by
            unfold Hid; show bs _ ++ bs [32] = _; rw [bs_append]; rfl
          have hls : (bs l).size ≤ 1000 := by rw [bs_size]; exact L1.out
          clear hr2
          go_wp2_with fail
          refine (read_bad HR2.out _ HU2.out.u8 HL2.out).mono ?_; rintro e w3 ⟨rfl, hb⟩
          have HS3 : Hid (OnR w (some ⟨b1, o1, none⟩) r1 none [] w3) := ⟨HU2.out.later hb, HX1.out.later hb, TRow.nil _ _⟩
          have HRR0 : Hid (∀ F N j, F = l ++ List.replicate (j + 1) 32 → N = l.length + 1 + j → readL (F ++ m) 0 0 = .error (e2, q2 + N)) := fun F N j hF hN => by rw [on_both HR1.out hF hN, HR2.out]; rfl
          clear hb
          go_wp2
          go_loopw [13, 14, 15] (OnG w (some ⟨b1, o1, none⟩) r1 none [] l (c % 5)) (fun _ _ i _ => c % 5 - (intOf i).toNat)
          case atStart => exact ⟨0, Nat.zero_le _, by first | rfl | (rw [HC0.out]; done) | (rw [HC0.out]; rfl), by first | rfl | (rw [bs_size]; go_num), rfl, HS3.out⟩
          case round =>
            obtain ⟨j, hj, rfl, rfl, rfl, hs⟩ := hrel
            have HS := Lib.hid hs
            clear hs
            have hb6 : (c : Int) % 5 = ((c % 5 : Nat) : Int) := by omega
            have hb5 : c % 5 < 5 := Nat.mod_lt _ (by omega)
            generalize hbb : c % 5 = gp at *
            clear hbb
            obtain ⟨F, hF⟩ : ∃ F, F = l ++ List.replicate (j + 1) 32 := ⟨_, rfl⟩
            obtain ⟨N, hN⟩ : ∃ N, N = l.length + 1 + j := ⟨_, rfl⟩
            rw [← hF, ← hN]
            have hFs : (bs F).size ≤ 1010 := by rw [bs_size, hF, List.length_append, List.length_replicate]; have := L1.out; omega
            have hNl : N ≤ 1010 := by have := L1.out; omega
            have HFF := Lib.hid hF
            have HNN := Lib.hid hN
            clear hF hN
            by_cases hlt : j < gp
            · have hltz : (j : Int) < (gp : Int) := by omega
              have HCT : Hid (bs F ++ ⟨#[32]⟩ = bs (l ++ List.replicate (j + 1 + 1) 32)) := by
                unfold Hid; rw [HFF.out]; show bs _ ++ bs [32] = _; rw [bs_append, List.append_assoc, ← List.replicate_succ']
              go_wp2
              go_roundw
              case rel => exact ⟨j + 1, by omega, by first | (rw [HCT.out]; done) | rfl, by have := HNN.out; go_num, by go_num, HS.out⟩
              case measure => simp [intOf]; omega
            · obtain rfl : j = gp := by omega
              have hltz : ¬ (j : Int) < (j : Int) := by omega
              have hcat : bs F ++ bs m = bs (F ++ m) := bs_append _ _
              have hms : (bs m).size ≤ 1000 := by rw [bs_size]; exact L2.out
              have HCAT := Lib.hid hcat
              have hll : (F ++ m).length ≤ 1073741823 := by rw [List.length_append]; have := L2.out; rw [bs_size] at hFs; omega
              have HLL := Lib.hid hll
              clear hcat hll hlt hj
              go_wp2_with fail
              clear hb6 hb5
              try rw [HCAT.out]
              have HRR := Lib.hid (HRR0.out F N j HFF.out HNN.out)
              refine (read_bad HRR.out _ HS.out.s.u8 HLL.out).mono ?_; rintro e w4 ⟨rfl, hb⟩
              have HS4 := Lib.hid (HS.out.later hb)
              clear hb
              have hw1 : IntKind.i64.wrap ((q2 : Int) + (N : Int)) = (q2 : Int) + (N : Int) := IntWalk.i64_in _ (by omega)
              go_wp2
              go_ret
              exact ⟨by first | rfl | simp, HS4.out.s.bel⟩
        | ok r2 =>
          obtain ⟨hp2, hn2, hat2⟩ := on_pos hr2 L2.out
          obtain ⟨n2, hnn2⟩ : ∃ n2, r2.length = n2 := ⟨_, rfl⟩
          have HN2 := Lib.hid hnn2
          have HP2 : Hid (0 < n2 ∧ n2 ≤ 1001) := by unfold Hid; omega
          have HAT2 := Lib.hid hat2
          have HR2 := Lib.hid hr2
          have HC0 : Hid (bs l ++ ⟨#[32]⟩ = bs (l ++ List.replicate (0 + 1) 32)) := by
            unfold Hid; show bs _ ++ bs [32] = _; rw [bs_append]; rfl
          have hls : (bs l).size ≤ 1000 := by rw [bs_size]; exact L1.out
          clear hr2 hp2 hn2 hat2 hnn2
          go_wp2_with fail
          refine (read_okn HR2.out HN2.out _ HU2.out.u8 HL2.out).mono ?_; rintro e w3 ⟨B2, c2, rfl, hx2, hb⟩
          obtain ⟨b2, o2, rfl, -, -⟩ := hx2 0 (by rw [HN2.out]; exact HP2.out.1)
          have HS3 : Hid (OnR w (some ⟨b1, o1, none⟩) r1 (some ⟨b2, o2, none⟩) r2 w3) := ⟨HU2.out.later hb, HX1.out.later hb, hx2⟩
          have HRR0 : Hid (∀ F N j, F = l ++ List.replicate (j + 1) 32 → N = l.length + 1 + j → readL (F ++ m) 0 0 = .ok (r1.dropLast ++ r2.map (Tok.shift N))) := fun F N j hF hN => by rw [on_both HR1.out hF hN, HR2.out]; rfl
          clear hb hx2
          go_wp2
          go_loopw [13, 14, 15] (OnG w (some ⟨b1, o1, none⟩) r1 (some ⟨b2, o2, none⟩) r2 l (c % 5)) (fun _ _ i _ => c % 5 - (intOf i).toNat)
          case atStart => exact ⟨0, Nat.zero_le _, by first | rfl | (rw [HC0.out]; done) | (rw [HC0.out]; rfl), by first | rfl | (rw [bs_size]; go_num), rfl, HS3.out⟩
          case round =>
            obtain ⟨j, hj, rfl, rfl, rfl, hs⟩ := hrel
            have HS := Lib.hid hs
            clear hs
            have hb6 : (c : Int) % 5 = ((c % 5 : Nat) : Int) := by omega
            have hb5 : c % 5 < 5 := Nat.mod_lt _ (by omega)
            generalize hbb : c % 5 = gp at *
            clear hbb
            obtain ⟨F, hF⟩ : ∃ F, F = l ++ List.replicate (j + 1) 32 := ⟨_, rfl⟩
            obtain ⟨N, hN⟩ : ∃ N, N = l.length + 1 + j := ⟨_, rfl⟩
            rw [← hF, ← hN]
            have hFs : (bs F).size ≤ 1010 := by rw [bs_size, hF, List.length_append, List.length_replicate]; have := L1.out; omega
            have hNl : N ≤ 1010 := by have := L1.out; omega
            have HFF := Lib.hid hF
            have HNN := Lib.hid hN
            clear hF hN
            by_cases hlt : j < gp
            · have hltz : (j : Int) < (gp : Int) := by omega
              have HCT : Hid (bs F ++ ⟨#[32]⟩ = bs (l ++ List.replicate (j + 1 + 1) 32)) := by
                unfold Hid; rw [HFF.out]; show bs _ ++ bs [32] = _; rw [bs_append, List.append_assoc, ← List.replicate_succ']
              go_wp2
              go_roundw
              case rel => exact ⟨j + 1, by omega, by first | (rw [HCT.out]; done) | rfl, by have := HNN.out; go_num, by go_num, HS.out⟩
              case measure => simp [intOf]; omega
            · obtain rfl : j = gp := by omega
              have hltz : ¬ (j : Int) < (j : Int) := by omega
              have hcat : bs F ++ bs m = bs (F ++ m) := bs_append _ _
              have hms : (bs m).size ≤ 1000 := by rw [bs_size]; exact L2.out
              have HCAT := Lib.hid hcat
              have hll : (F ++ m).length ≤ 1073741823 := by rw [List.length_append]; have := L2.out; rw [bs_size] at hFs; omega
              have HLL := Lib.hid hll
              clear hcat hll hlt hj
              go_wp2_with fail
              clear hb6 hb5
              try rw [HCAT.out]
              obtain ⟨R, hRd⟩ : ∃ R, R = r1.dropLast ++ r2.map (Tok.shift N) := ⟨_, rfl⟩
              have HRR : Hid (readL (F ++ m) 0 0 = .ok R) := by unfold Hid; rw [hRd]; exact HRR0.out F N j HFF.out HNN.out
              obtain ⟨D, hD⟩ : ∃ D, D = r1.dropLast := ⟨_, rfl⟩
              rw [← hD] at hRd
              have hDl : D.length = n1 := by rw [hD, List.length_dropLast, HN1.out]; rfl
              obtain ⟨n3, hn3⟩ : ∃ n3, R.length = n3 := ⟨_, rfl⟩
              have hn3l : n3 = n1 + n2 := by rw [← hn3, hRd, List.length_append, List.length_map, HN2.out, hDl]
              have HN3 := Lib.hid hn3
              have HRD := Lib.hid hRd
              have HDL := Lib.hid hDl
              have HDD := Lib.hid hD
              have HP3 : Hid (0 < n3 ∧ n3 ≤ 2100) := by have h1 := HP1.out.2; have h2 := HP2.out; unfold Hid; omega
              clear hRd hD hDl hn3 hn3l
              refine (read_okn HRR.out HN3.out _ HS.out.s.u8 HLL.out).mono ?_; rintro e w4 ⟨A3, c3, rfl, hx3, hb⟩
              obtain ⟨b3, o3, rfl, -, -⟩ := hx3 0 (by rw [HN3.out]; exact HP3.out.1)
              have HS4 := Lib.hid (HS.out.later hb)
              have HX3 := Lib.hid hx3
              clear hb hx3
              have hlt2 : b2 < w4.heap.size := by
                obtain ⟨b', o', h1, h2, _⟩ := HS4.out.y 0 (by rw [HN2.out]; exact HP2.out.1)
                cases h1; exact h2
              have hlt3 : b3 < w4.heap.size := by
                obtain ⟨b', o', h1, h2, _⟩ := HX3.out 0 (by rw [HN3.out]; exact HP3.out.1)
                cases h1; exact h2
              have hba := (Below.refl w4.heap.size w4).alloc (Nat.le_refl _) (.cells #[] 48)
              have HXD : Hid (TRow (w4.alloc (.cells #[] 48)) (some ⟨b1, o1, none⟩) D) := by unfold Hid; rw [HDD.out]; exact (trow_cut HS4.out.x).later hba
              have HE : Hid (OnT w w4.heap.size b2 o2 b3 o3 r2 R (.slice (some ⟨w4.heap.size, 0, none⟩) 0 0) [] (w4.alloc (.cells #[] 48))) :=
                ⟨HS4.out.s.bel.trans (hba.mono HS4.out.s.bel.size), OwnT.empty (Blk.new w4 #[] 48) (Nat.le_refl _), HS4.out.y.later hba, HX3.out.later hba, hba.size, HS4.out.s.bel.size, hlt2, hlt3⟩
              have hcap1 : (n1 : Int) ≤ (c1 : Int) := by have := HCP.out; omega
              have hsub : IntKind.i64.wrap ((n1 : Int) + 1 - 1) = (n1 : Int) := by rw [Int.add_sub_cancel]; exact IntWalk.i64_in _ (by have := HP1.out.2; omega)
              have hlenD : ([] : List Tok).length + D.length < 1073741824 := by rw [HDL.out]; have := HP1.out.2; show 0 + n1 < _; omega
              have hlow := HE.out.low
              have hn1l : n1 ≤ 1000 := HP1.out.2
              clear hba
              go_wp2_with (at_builtin; refine wpList_append_trow rfl _ _ rfl w4.heap.size _ _ rfl HE.out.own b1 o1 _ D (by rw [HDL.out]; rfl) HXD.out hlenD hlow ?_; intro v' w7 ho7 hb7; have HS7 : Hid (OnT w w4.heap.size b2 o2 b3 o3 r2 R v' D w7) := HE.out.grow (hb7 _ (Nat.le_refl _)) ho7; clear ho7 hb7)
              have HL3 : Hid (R.length ≤ 1073741824) := by unfold Hid; rw [HN3.out]; have := HP3.out; omega
              have HDN : Hid (D.length ≤ 1000) := by unfold Hid; rw [HDL.out]; exact HP1.out.2
              clear HE HXD hlow hlenD HX3 hlt2 hlt3 hcap1 hsub hn1l HS HS3 HS4 hFs hms
              generalize w4.heap.size = base at *
              go_loopw [19, 20] (OnA w base b2 o2 b3 o3 r2 R D N n2) (fun _ i _ => n2 - (intOf i).toNat)
              case atStart => exact ⟨0, Nat.zero_le _, rfl, by rw [List.take_zero, List.map_nil, List.append_nil]; exact HS7.out⟩
              case round =>
                obtain ⟨k, hk, rfl, hs⟩ := hrel
                by_cases hlt : k < n2
                · have hltz : (k : Int) < (n2 : Int) := by omega
                  have HLT := Lib.hid hlt
                  have hk1 : k ≤ 1001 := by have := HP2.out; omega
                  have HK1 := Lib.hid hk1
                  have g := hs.y.at (i := k) (by rw [HN2.out]; exact hlt) rfl
                  have hta : (r2.getD k tok0).at_ ≤ 1000 := HAT2.out k (by rw [HN2.out]; exact hlt)
                  have HTK : Hid (D ++ (r2.take (k + 1)).map (Tok.shift N) = (D ++ (r2.take k).map (Tok.shift N)) ++ [(r2.getD k tok0).shift N]) := by
                    unfold Hid
                    have hl' : k < r2.length := by rw [HN2.out]; exact hlt
                    rw [List.take_succ_eq_append_getElem hl', List.map_append, List.append_assoc, List.getD_eq_getElem?_getD, List.getElem?_eq_getElem hl']; rfl
                  have HCN : Hid ((D ++ (r2.take k).map (Tok.shift N)).length < 1073741824) := by
                    unfold Hid; rw [List.length_append, List.length_map, List.length_take]; have := HDN.out; have := HP2.out; omega
                  generalize D ++ (r2.take k).map (Tok.shift N) = L at *
                  generalize r2.getD k tok0 = t at *
                  have HS := Lib.hid hs
                  clear hs
                  unfold At9 at g
                  obtain ⟨g0, g1, g2, g3, g4, g5, g6, g7, g8⟩ := g
                  have hb2 := (Below.refl wr.heap.size wr).alloc (Nat.le_refl _) (.cells #[.int .i64 (t.kind : Int), .int .i64 (t.at_ : Int), .int .u64 (wd t.cls 0), .int .u64 (wd t.cls 1), .int .u64 (wd t.cls 2), .int .u64 (wd t.cls 3), .string (bs t.text), .int .i64 (t.lo : Int), .int .i64 (t.hi : Int)] 48)
                  have HS2 := Lib.hid (HS.out.later hb2)
                  have HX2 := Lib.hid (Blk.new wr #[.int .i64 (t.kind : Int), .int .i64 (t.at_ : Int), .int .u64 (wd t.cls 0), .int .u64 (wd t.cls 1), .int .u64 (wd t.cls 2), .int .u64 (wd t.cls 3), .string (bs t.text), .int .i64 (t.lo : Int), .int .i64 (t.hi : Int)] 48)
                  have hlowk : base ≤ wr.heap.size := HS.out.low
                  have HOB : Hid (∀ q, Value.ownBlock u19 = some q → q < wr.heap.size) := fun k hk => (World.ownsRow.lt HS.out.own k hk).2
                  have hw1 : IntKind.i64.wrap ((t.at_ : Int) + (N : Int)) = (t.at_ : Int) + (N : Int) := IntWalk.i64_in _ (by omega)
                  go_upto_region 22 with (fail)
                  clear g0 g1 g2 g3 g4 g5 g6 g7 g8 hb2
                  generalize wr.alloc (.cells #[.int .i64 (t.kind : Int), .int .i64 (t.at_ : Int), .int .u64 (wd t.cls 0), .int .u64 (wd t.cls 1), .int .u64 (wd t.cls 2), .int .u64 (wd t.cls 3), .string (bs t.text), .int .i64 (t.lo : Int), .int .i64 (t.hi : Int)] 48) = w8 at *
                  generalize wr.heap.size = bx at *
                  have gf := HX2.out.frozen
                  obtain ⟨g0, g1, g2, g3, g4, g5, g6, g7, g8⟩ := nine_cells HX2.out
                  go_upto_region 23 with (fail)
                  have HX3 : Hid (Blk (w8.setCell ⟨bx, 1, none⟩ (.int .i64 ((t.at_ : Int) + (N : Int)))) bx #[.int .i64 (t.kind : Int), .int .i64 ((t.at_ : Int) + (N : Int)), .int .u64 (wd t.cls 0), .int .u64 (wd t.cls 1), .int .u64 (wd t.cls 2), .int .u64 (wd t.cls 3), .string (bs t.text), .int .i64 (t.lo : Int), .int .i64 (t.hi : Int)] 48) := HX2.out.setCell 1 (.int .i64 ((t.at_ : Int) + (N : Int)))
                  have hbs : Below base w8 (w8.setCell ⟨bx, 1, none⟩ (.int .i64 ((t.at_ : Int) + (N : Int)))) := (Below.refl _ _).setCell (p := ⟨bx, 1, none⟩) hlowk _
                  have HS3 : Hid (OnT w base b2 o2 b3 o3 r2 R u19 L (w8.setCell ⟨bx, 1, none⟩ (.int .i64 ((t.at_ : Int) + (N : Int))))) := HS2.out.grow hbs (HS2.out.own.setCell_ne2 (fun q hq => by have := HOB.out q hq; show q ≠ bx; omega) _)
                  generalize w8.setCell ⟨bx, 1, none⟩ (.int .i64 ((t.at_ : Int) + (N : Int))) = w9 at *
                  clear g0 g1 g2 g3 g4 g5 g6 g7 g8 gf hbs hw1
                  have gf := HX3.out.frozen
                  obtain ⟨g0, g1, g2, g3, g4, g5, g6, g7, g8⟩ := nine_cells HX3.out
                  obtain ⟨x, hx⟩ : ∃ x, x = t.shift N := ⟨_, rfl⟩
                  have HXC : Hid (tokC x = #[.int .i64 (t.kind : Int), .int .i64 ((t.at_ : Int) + (N : Int)), .int .u64 (wd t.cls 0), .int .u64 (wd t.cls 1), .int .u64 (wd t.cls 2), .int .u64 (wd t.cls 3), .string (bs t.text), .int .i64 (t.lo : Int), .int .i64 (t.hi : Int)]) := by unfold Hid; rw [hx]; rfl
                  rw [← hx] at HTK
                  clear hx
                  have HS4 := Lib.hid (HS3.out.later ((Below.refl _ _).alloc (Nat.le_refl _) (.cells (tokC x) 48)))
                  have HK := Lib.hid (Blk.new w9 (tokC x) 48)
                  have hbase4 := HS4.out.low
                  rw [HXC.out] at HS4 hbase4
                  rw [HXC.out] at HK
                  go_wp2_with (at_builtin; refine wpList_append_tok rfl _ _ rfl base _ _ rfl HS4.out.own w9.heap.size x rfl (HXC.out.symm ▸ HK.out) HCN.out hbase4 ?_; intro v' w7 ho7 hb7; have HS7 : Hid (OnT w base b2 o2 b3 o3 r2 R v' (L ++ [x]) w7) := HS4.out.grow (hb7 _ (Nat.le_refl _)) ho7; clear ho7 hb7)
                  go_roundw
                  case rel => exact ⟨k + 1, HLT.out, by have := HK1.out; go_num, by rw [HTK.out]; exact HS7.out⟩
                  case measure => have := HLT.out; have := HK1.out; simp [intOf]; omega
                · obtain rfl : k = n2 := by omega
                  have hltz : ¬ (k : Int) < (k : Int) := by omega
                  have hLR : D ++ (r2.take k).map (Tok.shift N) = R := by rw [← HN2.out, List.take_length, HRD.out]
                  obtain ⟨av, cv, hv, hrow⟩ := hs.own.row
                  rw [hLR] at hv hrow
                  rw [HN3.out] at hv
                  have HROW := Lib.hid hrow
                  have HZ := Lib.hid hs.z
                  have HBEL := Lib.hid hs.bel
                  clear hs hrow hLR
                  subst hv
                  go_wp2_with fail
                  refine (refsame3_n HN3.out HN3.out _ _ _ _ _ HZ.out HROW.out HL3.out HL3.out).mono ?_; rintro e w12 ⟨rfl, hb⟩
                  have HF := Lib.hid (HBEL.out.trans (hb.mono HBEL.out.size))
                  clear hb
                  have hdec : decide (R = R) = true := decide_eq_true rfl
                  rw [hdec]
                  go_wp2
                  go_ret
                  exact ⟨by first | rfl | simp, HF.out⟩
end Go.Proofs.YthiibpabdkkknaaDoor
