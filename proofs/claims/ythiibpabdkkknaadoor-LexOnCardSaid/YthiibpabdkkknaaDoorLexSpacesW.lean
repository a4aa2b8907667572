/- The statement LexSpaces of layer 3, walked. -/
import Derived.Test.YthiibpabdkkknaaDoorLexWholeW
import Derived.Test.YthiibpabdkkknaaDoorLexMoreM
namespace Go.Proofs.YthiibpabdkkknaaDoor
open Go Go.RowKit
set_option linter.unusedVariables false
set_option linter.unusedSimpArgs false

structure SpS (w0 : World) (A : Option Addr) (r : List Tok) (w : World) : Prop where
  bel : Below w0.heap.size w0 w
  u8 : U8T w
  row : TRow w A r
theorem SpS.later {w0 w w' : World} {A : Option Addr} {r : List Tok} (h : SpS w0 A r w) (hb : Below w.heap.size w w') : SpS w0 A r w' := ⟨h.bel.trans (hb.mono h.bel.size), h.u8.later hb, h.row.later hb⟩
def GapL (w0 : World) (A : Option Addr) (r : List Tok) (g : Nat) (s i : Value) (w : World) : Prop := ∃ j : Nat, j ≤ g ∧ s = .string (bs (List.replicate j 32)) ∧ i = .int .i64 (j : Int) ∧ SpS w0 A r w
/-- What a reading yields. -/
def RdV (n : Nat) (r : List Tok) (v : Value) (w : World) : Prop := ∃ A c, v = .tuple #[.slice A n c, .int .i64 0, .int .i64 0] ∧ TRow w A r
theorem RdV.later (n : Nat) (r : List Tok) (v : Value) (w w' : World) (h : RdV n r v w) (hb : Below w.heap.size w w') : RdV n r v w' := by
  obtain ⟨A, c, h1, h2⟩ := h
  exact ⟨A, c, h1, h2.later hb⟩
def RdR (n : Nat) (r : List Tok) (v : Value) (w : World) : Prop := ∃ A c, v = .slice A n c ∧ TRow w A r
theorem RdR.later (n : Nat) (r : List Tok) (v : Value) (w w' : World) (h : RdR n r v w) (hb : Below w.heap.size w w') : RdR n r v w' := by
  obtain ⟨A, c, h1, h2⟩ := h
  exact ⟨A, c, h1, h2.later hb⟩
structure SqS (w0 : World) (b1 o1 b2 o2 : Nat) (r1 r2 : List Tok) (w : World) : Prop where
  bel : Below w0.heap.size w0 w
  x : TRow w (some ⟨b1, o1, none⟩) r1
  y : TRow w (some ⟨b2, o2, none⟩) r2
theorem SqS.later {w0 w w' : World} {b1 o1 b2 o2 : Nat} {r1 r2 : List Tok} (h : SqS w0 b1 o1 b2 o2 r1 r2 w) (hb : Below w.heap.size w w') : SqS w0 b1 o1 b2 o2 r1 r2 w' := ⟨h.bel.trans (hb.mono h.bel.size), h.x.later hb, h.y.later hb⟩
def SqL (w0 : World) (b1 o1 b2 o2 : Nat) (r1 r2 : List Tok) (n : Nat) (i : Value) (w : World) : Prop := ∃ k : Nat, k ≤ n ∧ i = .int .i64 (k : Int) ∧ SqS w0 b1 o1 b2 o2 r1 r2 w
theorem trow_below {w w' : World} {b o B : Nat} {l : List Tok} (h : TRow w (some ⟨b, o, none⟩) l) (hlt : b < B) (hb : Below B w w') : TRow w' (some ⟨b, o, none⟩) l := fun i hi => by
  obtain ⟨b', o', h1, h2, hc⟩ := h i hi
  cases h1
  exact ⟨b, o, rfl, Nat.lt_of_lt_of_le h2 hb.size, fun j hj => (hb.cell (p := ⟨b, o + i * 9 + j, none⟩) hlt).trans (hc j hj)⟩
structure SrS (w0 : World) (b1 o1 b2 o2 : Nat) (r1 r2 : List Tok) (bx : Nat) (t : Tok) (w : World) : Prop where
  s : SqS w0 b1 o1 b2 o2 r1 r2 w
  x : Blk w bx (tokC t) 48
theorem SrS.later {w0 w w' : World} {b1 o1 b2 o2 bx : Nat} {r1 r2 : List Tok} {t : Tok} (h : SrS w0 b1 o1 b2 o2 r1 r2 bx t w) (hb : Below w.heap.size w w') : SrS w0 b1 o1 b2 o2 r1 r2 bx t w' := ⟨h.s.later hb, h.x.later hb⟩
set_option maxHeartbeats 16000000 in
set_option maxRecDepth 1000000 in
theorem lexspaces_walk (l : List UInt8) (a b : Nat) (ha : a < 256) (hb : b < 256) (w : World) (hT : U8T w) (hl : l.length ≤ 9223372036854775807) :
    Calls Tryd.prog 8 #[.string (bs l), .int .u8 (a : Int), .int .u8 (b : Int)] w (Ans w (.bool true)) := by
  have HT := Lib.hid hT
  clear hT
  go_enter Tryd.func8, Tryd.ntmps8
  by_cases h3 : 500 < l.length
  · have hz : ((bs l).size : Int) > 500 := by rw [bs_size]; omega
    go_wp2_with fail
    refine (awake3_any _ HT.out).mono ?_; rintro e w1 ⟨rfl, hb⟩
    go_wp2_with fail
    refine (awake3_any _ (HT.out.later hb)).mono ?_; rintro e w2 ⟨rfl, hb2⟩
    have HF := Lib.hid (hb.trans (hb2.mono hb.size))
    clear hb hb2
    go_wp2
    go_ret
    exact ⟨rfl, HF.out⟩
  · have hz : ¬ ((bs l).size : Int) > 500 := by rw [bs_size]; omega
    have hsz : (bs l).size ≤ 500 := by rw [bs_size]; omega
    have HL : Hid (l.length ≤ 500) := by unfold Hid; omega
    have HL2 : Hid (l.length ≤ 1073741823) := by unfold Hid; omega
    go_wp2_with fail
    refine (awake3_any _ HT.out).mono ?_; rintro e w1 ⟨rfl, hb⟩
    have HT1 := Lib.hid (HT.out.later hb)
    have HB1 := Lib.hid hb
    clear hb
    cases hr0 : readL l 0 0 with
    | error p =>
      obtain ⟨e, q⟩ := p
      have HR := Lib.hid hr0
      obtain ⟨_, _, _, f4, _, _⟩ := readL_fault l 0 0 e q (Nat.zero_le _) hr0
      have hez : ((e : Int) != 0) = true := by rw [bne_iff_ne]; omega
      clear hr0 f4
      go_wp2_with fail
      refine (read_bad HR.out _ HT1.out HL2.out).mono ?_; rintro e w2 ⟨rfl, hb⟩
      have HB2 := Lib.hid (HB1.out.trans (hb.mono HB1.out.size))
      clear hb
      go_wp2
      go_ret
      exact ⟨rfl, HB2.out⟩
    | ok r =>
      have hw := readL_whole l 0 0 r (Nat.zero_le _) hr0
      have hpos : 0 < r.length := List.length_pos_iff.2 hw.ne
      obtain ⟨n, hn⟩ : ∃ n, r.length = n := ⟨_, rfl⟩
      have hnl : n ≤ 501 := by
        obtain ⟨n', hn'⟩ : ∃ n', r.length = n' + 1 := ⟨r.length - 1, by omega⟩
        have := whole_len hw hn'; omega
      have HR := Lib.hid hr0
      have HN := Lib.hid hn
      have hil : a % n < n := Nat.mod_lt _ (by omega)
      have hmod : (a : Int) % (n : Int) = ((a % n : Nat) : Int) := by omega
      have hn0 : ¬ ((n : Int) == 0) = true := by rw [beq_iff_eq]; omega
      have hn1 : ((n : Int) == 0) = false := by rw [beq_eq_false_iff_ne]; omega
      have hn2 : (0 : Int) < (n : Int) := by omega
      have HG : Hid (∀ k, k < n → ∀ m, (r.getD k tok0).at_ ≤ l.length ∧ readL (l.take (r.getD k tok0).at_ ++ (List.replicate m 32 ++ l.drop (r.getD k tok0).at_)) 0 0 = .ok (r.take k ++ (r.drop k).map (Tok.shift m))) := fun k hk m => spaces_read hr0 (by rw [List.getD_eq_getElem?_getD, List.getElem?_eq_getElem (by omega)]; rfl) m
      clear hr0 hpos hw hn
      go_wp2_with fail
      refine (read_okn HR.out HN.out _ HT1.out HL2.out).mono ?_; rintro e w2 ⟨A, cc, rfl, hr, hb⟩
      obtain ⟨b1, o1, rfl, -, -⟩ := hr 0 (by rw [HN.out]; omega)
      have HS0 : Hid (SpS w (some ⟨b1, o1, none⟩) r w2) := ⟨HB1.out.trans (hb.mono HB1.out.size), HT1.out.later hb, hr⟩
      clear hr hb
      go_upto_region 7 with (fail)
      generalize hii : a % n = k at *
      rw [hmod]
      clear hmod hii hn0 hn1 hn2
      have g := HS0.out.row.at (i := k) (by rw [HN.out]; exact hil) rfl
      obtain ⟨-, g1, -⟩ := g
      have hat := (HG.out k hil 0).1
      have HGK := Lib.hid (HG.out k hil)
      have HRT : Hid (∀ i, i < n → ∀ m, (r.take k ++ (r.drop k).map (Tok.shift m)).getD i tok0 = if k ≤ i then (r.getD i tok0).shift m else r.getD i tok0) := fun i hi m => spaces_at r k m i tok0 (by rw [HN.out]; exact hi)
      have HRL : Hid (∀ m, (r.take k ++ (r.drop k).map (Tok.shift m)).length = n) := fun m => by rw [spaces_len, HN.out]
      have HAT : Hid (∀ i, i < n → (r.getD i tok0).at_ ≤ l.length) := fun i hi => (HG.out i hi 0).1
      clear HG
      generalize (r.getD k tok0).at_ = p at *
      have hp0 : ¬ (p : Int) < 0 := by omega
      have hp1 : ¬ (p : Int) > ((bs l).size : Int) := by rw [bs_size]; omega
      have hp2 : (p : Int) ≤ ((bs l).size : Int) := by omega
      have hkz : (k : Int) < (n : Int) := by omega
      go_wp2
      clear g1
      go_loopw [12, 13] (GapL w (some ⟨b1, o1, none⟩) r (b % 6)) (fun _ i _ => b % 6 - (intOf i).toNat)
      case atStart => exact ⟨0, Nat.zero_le _, rfl, rfl, HS0.out⟩
      case round =>
        obtain ⟨j, hj, rfl, rfl, hs⟩ := hrel
        have HS := Lib.hid hs
        clear hs
        have hb6 : (b : Int) % 6 = ((b % 6 : Nat) : Int) := by omega
        have hb5 : b % 6 < 6 := Nat.mod_lt _ (by omega)
        generalize hbb : b % 6 = gp at *
        clear hbb
        have hjs : (bs (List.replicate j (32 : UInt8))).size = j := by rw [bs_size, List.length_replicate]
        by_cases hlt : j < gp
        · have hltz : (j : Int) < (gp : Int) := by omega
          have hcat : bs (List.replicate j 32) ++ ⟨#[32]⟩ = bs (List.replicate (j + 1) 32) := by
            show bs _ ++ bs [32] = _
            rw [bs_append, List.replicate_succ']
          have hz1 : (bs (List.replicate j (32 : UInt8))).size ≤ 100 := by omega
          clear hjs
          go_wp2
          go_roundw
          case rel => exact ⟨j + 1, by omega, by first | rfl | (rw [hcat]), by go_num, HS.out⟩
          case measure => simp [intOf]; omega
        · obtain rfl : j = gp := by omega
          have hltz : ¬ (j : Int) < (j : Int) := by omega
          go_upto_region 15 with (fail)
          clear hlt hb6 hj hltz
          have hpl : p ≤ l.length := hat
          have hx1 : (bs l).extract 0 p = bs (l.take p) := by rw [bs_extract]; simp
          have hx2 : (bs l).extract p (bs l).size = bs (l.drop p) := by rw [bs_extract, bs_size, List.take_of_length_le (by rw [List.length_drop]; exact Nat.le_refl _)]
          have hcat : bs (l.take p) ++ bs (List.replicate j 32) ++ bs (l.drop p) = bs (l.take p ++ (List.replicate j 32 ++ l.drop p)) := by rw [bs_append, bs_append, List.append_assoc]
          have hs1 : (bs (l.take p)).size ≤ 500 := by rw [bs_size, List.length_take]; have := HL.out; omega
          have hs2 : (bs (l.drop p)).size ≤ 500 := by rw [bs_size, List.length_drop]; have := HL.out; omega
          have hs3 : (bs (List.replicate j (32 : UInt8))).size ≤ 10 := by rw [hjs]; omega
          have HJS := Lib.hid hjs
          have HJ10 : Hid (j ≤ 10) := by unfold Hid; omega
          have hs4 : (bs (l.take p ++ List.replicate j (32 : UInt8))).size ≤ 510 := by rw [← bs_append]; rw [ByteArray.size_append]; omega
          have R2 := HGK.out j
          have HRR := Lib.hid R2.2
          have HRN := Lib.hid (HRL.out j)
          have HRI := Lib.hid (fun i hi => HRT.out i hi j)
          clear hjs HRT HRL HGK R2
          generalize r.take k ++ (r.drop k).map (Tok.shift j) = R at *
          have hll : (l.take p ++ (List.replicate j 32 ++ l.drop p)).length ≤ 1073741823 := by rw [List.length_append, List.length_append, List.length_replicate, List.length_take, List.length_drop]; have := HL.out; omega
          have HC : Hid (∀ w', SpS w (some ⟨b1, o1, none⟩) r w' → Calls Tryd.prog 25 #[.string (bs (l.take p ++ (List.replicate j 32 ++ l.drop p)))] w' (fun e w'' => ∃ v, e = .returned v ∧ RdV n R v w'' ∧ Below w'.heap.size w' w'')) := fun w' h => (read_okn HRR.out HRN.out w' h.u8 hll).mono fun e w'' ⟨A, c, h1, h2, h3⟩ => ⟨_, h1, ⟨A, c, rfl, h2⟩, h3⟩
          have HX1 := Lib.hid hx1
          have HX2 := Lib.hid hx2
          have HCT := Lib.hid hcat
          have hn1 : ¬ 9223372036854775807 < (bs (l.take p)).size + (bs (List.replicate j (32 : UInt8))).size := by omega
          have hn2 : ¬ 9223372036854775807 < (bs (l.take p)).size + (bs (List.replicate j (32 : UInt8))).size + (bs (l.drop p)).size := by omega
          clear hll hx1 hx2 hcat hb5 hs4
          refine wp_region_stable (S := (SpS w (some ⟨b1, o1, none⟩) r)) (hSt := fun _ _ h hb => h.later hb) (plan := [[(0, none)], [(11, none)], [(70, some 0), (71, some 1)], [(12, none)], [(72, some 2), (73, some 3)], [(0, none)], [(11, none)], [(75, some 5), (76, some 6)], [(74, some 4), (77, some 7)], [(78, some 8)], [(79, some 9)], [(69, some 10)], [(69, some 10)], [(69, some 10)], [(80, some 11)], [(81, some 12)], [(82, some 13)]]) (by kernel_rfl) (by kernel_rfl) (by kernel_rfl) ?hS ?_
          rotate_left
          iterate 9 first
            | (refine chain_skip (by rfl) (by rfl) ?_)
            | (apply chain_want (by rfl)
               · intro act wx hS hr
                 simp at hr
                 have hx1 := HX1.out
                 have hx2 := HX2.out
                 have hct := HCT.out
                 go_simp
                 (try go_ints)
                 first
                   | (obtain ⟨v, hr2, A2, c2, rfl, ht⟩ := hr; simp only [hr2, Option.getD_some]; exact Done.same (v := .int .i64 0))
                   | exact Done.same
              )
          (refine chain_rel (RdV n R) (RdV.later n R) (by rfl) ?_ ?_
           · intro act wx hS hr
             simp at hr
             have hx1 := HX1.out
             have hx2 := HX2.out
             have hct := HCT.out
             all_goals go_simp
             ((with_reducible refine (HC.out _ hS).mono ?_); rintro e w' ⟨v, rfl, hv, hb⟩; exact Done.rel hb hv)
          )
          (refine chain_rel (RdV n R) (RdV.later n R) (by rfl) ?_ ?_
           · intro act wx hS hr
             simp at hr
             have hx1 := HX1.out
             have hx2 := HX2.out
             have hct := HCT.out
             all_goals go_simp
             (obtain ⟨v, hr2, hv⟩ := hr; simp only [hr2, Option.getD_some]; exact Done.rel (Below.refl _ _) hv)
          )
          (refine chain_rel (RdR n R) (RdR.later n R) (by rfl) ?_ ?_
           · intro act wx hS hr
             simp at hr
             have hx1 := HX1.out
             have hx2 := HX2.out
             have hct := HCT.out
             all_goals go_simp
             (obtain ⟨v, hr2, A2, c2, rfl, ht⟩ := hr; simp only [hr2, Option.getD_some]; exact Done.rel (v := .slice A2 n c2) (Below.refl _ _) ⟨A2, c2, rfl, ht⟩)
          )
          iterate 2 first
            | (refine chain_skip (by rfl) (by rfl) ?_)
            | (apply chain_want (by rfl)
               · intro act wx hS hr
                 simp at hr
                 have hx1 := HX1.out
                 have hx2 := HX2.out
                 have hct := HCT.out
                 go_simp
                 (try go_ints)
                 first
                   | (obtain ⟨v, hr2, A2, c2, rfl, ht⟩ := hr; simp only [hr2, Option.getD_some]; exact Done.same (v := .int .i64 0))
                   | exact Done.same
              )
          (refine chain_rel (RdR n R) (RdR.later n R) (by rfl) ?_ ?_
           · intro act wx hS hr
             simp at hr
             have hx1 := HX1.out
             have hx2 := HX2.out
             have hct := HCT.out
             all_goals go_simp
             (obtain ⟨v, hr2, hv⟩ := hr; simp only [hr2, Option.getD_some]; exact Done.rel (Below.refl _ _) hv)
          )
          iterate 2 first
            | (refine chain_skip (by rfl) (by rfl) ?_)
            | (apply chain_want (by rfl)
               · intro act wx hS hr
                 simp at hr
                 have hx1 := HX1.out
                 have hx2 := HX2.out
                 have hct := HCT.out
                 go_simp
                 (try go_ints)
                 first
                   | (obtain ⟨v, hr2, A2, c2, rfl, ht⟩ := hr; simp only [hr2, Option.getD_some]; exact Done.same (v := .int .i64 0))
                   | exact Done.same
              )
          show ∀ w', _ → _
          intro wz hz
          simp [Act.put]
          case hS => exact HS.out
          intro v hv u hu x hx y hy
          obtain ⟨A2, c2, rfl, hty⟩ := hy
          obtain ⟨b2, o2, rfl, -, -⟩ := hty 0 (by rw [HRN.out]; omega)
          have HQ : Hid (SqS w b1 o1 b2 o2 r R wz) := ⟨hz.bel, hz.row, hty⟩
          clear hv hu hx hz hty HC HX1 HX2 HCT HS HRR hs1 hs2 hs3 hn1 hn2 hpl hat hp0 hp1 hp2
          have hjz : ((bs (List.replicate j (32 : UInt8))).size : Int) = (j : Int) := by rw [HJS.out]
          have HJZ := Lib.hid hjz
          clear hjz
          go_wp2
          go_loopw [17] (SqL w b1 o1 b2 o2 r R n) (fun i _ => n - (intOf i).toNat)
          case atStart => exact ⟨0, Nat.zero_le _, rfl, HQ.out⟩
          case round =>
            obtain ⟨i, hi, rfl, hs⟩ := hrel
            have HS := Lib.hid hs
            clear hs
            by_cases hlt : i < n
            · have hltz : (i : Int) < (n : Int) := by omega
              have FX := Lib.hid (fun (w' : World) (h : TRow w' (some ⟨b1, o1, none⟩) r) => h.at (i := i) (by rw [HN.out]; exact hlt) rfl)
              have FY := Lib.hid (fun (w' : World) (h : TRow w' (some ⟨b2, o2, none⟩) R) => h.at (i := i) (by rw [HRN.out]; exact hlt) rfl)
              have HE := Lib.hid (HRI.out i hlt)
              have hta : (r.getD i tok0).at_ ≤ 500 := by have := HAT.out i hlt; have := HL.out; omega
              generalize R.getD i tok0 = t2 at *
              generalize r.getD i tok0 = t at *
              have g := FX.out _ HS.out.x
              unfold At9 at g
              obtain ⟨g0, g1, g2, g3, g4, g5, g6, g7, g8⟩ := g
              have hb2 := (Below.refl wr.heap.size wr).alloc (Nat.le_refl _) (.cells #[.int .i64 (t.kind : Int), .int .i64 (t.at_ : Int), .int .u64 (wd t.cls 0), .int .u64 (wd t.cls 1), .int .u64 (wd t.cls 2), .int .u64 (wd t.cls 3), .string (bs t.text), .int .i64 (t.lo : Int), .int .i64 (t.hi : Int)] 48)
              have HS2 := Lib.hid (HS.out.later hb2)
              have HX2 := Lib.hid (Blk.new wr #[.int .i64 (t.kind : Int), .int .i64 (t.at_ : Int), .int .u64 (wd t.cls 0), .int .u64 (wd t.cls 1), .int .u64 (wd t.cls 2), .int .u64 (wd t.cls 3), .string (bs t.text), .int .i64 (t.lo : Int), .int .i64 (t.hi : Int)] 48)
              have hbx : w.heap.size ≤ wr.heap.size := HS.out.bel.size
              have hb1 : b1 < wr.heap.size := by
                obtain ⟨b', o', h1, h2, _⟩ := HS.out.x i (by rw [HN.out]; exact hlt)
                cases h1; exact h2
              have hb22 : b2 < wr.heap.size := by
                obtain ⟨b', o', h1, h2, _⟩ := HS.out.y i (by rw [HRN.out]; exact hlt)
                cases h1; exact h2
              go_upto_region 22 with (fail)
              clear g0 g1 g2 g3 g4 g5 g6 g7 g8 hb2
              generalize wr.alloc (.cells #[.int .i64 (t.kind : Int), .int .i64 (t.at_ : Int), .int .u64 (wd t.cls 0), .int .u64 (wd t.cls 1), .int .u64 (wd t.cls 2), .int .u64 (wd t.cls 3), .string (bs t.text), .int .i64 (t.lo : Int), .int .i64 (t.hi : Int)] 48) = w3 at *
              generalize wr.heap.size = bx at *
              have gf := HX2.out.frozen
              obtain ⟨g0, g1, g2, g3, g4, g5, g6, g7, g8⟩ := nine_cells HX2.out
              by_cases hki : k ≤ i
              · have hkz2 : (i : Int) ≥ (k : Int) := by omega
                have HE2 : Hid (t2 = t.shift j) := by unfold Hid; rw [HE.out, if_pos hki]
                have hw1 : IntKind.i64.wrap ((t.at_ : Int) + (j : Int)) = (t.at_ : Int) + (j : Int) := IntWalk.i64_in _ (by have := HJ10.out; omega)
                have hjz := HJZ.out
                go_upto_region 24 with (fail)
                have HX3 : Hid (Blk (w3.setCell ⟨bx, 1, none⟩ (.int .i64 ((t.at_ : Int) + (j : Int)))) bx (tokC t2) 48) := by
                  unfold Hid; rw [HE2.out]; exact HX2.out.setCell 1 (.int .i64 ((t.at_ : Int) + (j : Int)))
                have hbs : Below bx w3 (w3.setCell ⟨bx, 1, none⟩ (.int .i64 ((t.at_ : Int) + (j : Int)))) := (Below.refl _ _).setCell (p := ⟨bx, 1, none⟩) (Nat.le_refl _) _
                have HS3 : Hid (SqS w b1 o1 b2 o2 r R (w3.setCell ⟨bx, 1, none⟩ (.int .i64 ((t.at_ : Int) + (j : Int))))) := ⟨HS2.out.bel.trans (hbs.mono hbx), trow_below HS2.out.x hb1 hbs, trow_below HS2.out.y hb22 hbs⟩
                generalize w3.setCell ⟨bx, 1, none⟩ (.int .i64 ((t.at_ : Int) + (j : Int))) = w4 at *
                clear g0 g1 g2 g3 g4 g5 g6 g7 g8 gf hbs hw1 hjz
                have HW : Hid (SrS w b1 o1 b2 o2 r R bx t2 _) := ⟨HS3.out, HX3.out⟩
                clear HS3 HX3 HX2 HS2
                refine wp_region_stable (S := (SrS w b1 o1 b2 o2 r R bx t2)) (hSt := fun _ _ h hb => h.later hb) (plan := [[(14, none)], [(17, none)], [(111, some 0), (112, some 1)], [(113, some 2)], [(18, none)], [(114, some 3), (115, some 4)]]) (by kernel_rfl) (by kernel_rfl) (by kernel_rfl) ?hS ?_
                rotate_left
                iterate 6 first
                  | (refine chain_skip (by rfl) (by rfl) ?_)
                  | (apply chain_want (by rfl)
                     · intro act wx hS hr
                       simp at hr
                       have g := FY.out _ hS.s.y
                       unfold At9 at g
                       obtain ⟨f0, f1, f2, f3, f4, f5, f6, f7, f8⟩ := g
                       have gx := hS.x
                       unfold tokC at gx
                       obtain ⟨g0, g1, g2, g3, g4, g5, g6, g7, g8⟩ := nine_cells gx
                       clear gx
                       have hq := fun w => neq_tok t2 t2 w
                       have hg := fun o1 o2 w => eqGuard_neq_tok o1 o2 t2 t2 w
                       rw [decide_eq_true rfl] at hq
                       go_simp
                       (try go_ints)
                       first
                         | exact Done.same (v := .agg (tokC t2))
                         | exact Done.same
                    )
                show ∀ w', _ → _
                intro wy hy
                simp [Act.put]
                case hS => exact HW.out
                have HY := Lib.hid hy
                clear hy
                go_wp2
                go_roundw
                case rel => exact ⟨i + 1, by omega, by go_num, HY.out.s⟩
                case measure => simp [intOf] <;> omega
              · have hkz2 : ¬ (i : Int) ≥ (k : Int) := by omega
                have HE2 : Hid (t2 = t) := by unfold Hid; rw [HE.out, if_neg hki]
                go_upto_region 24 with (fail)
                have HX3 : Hid (Blk w3 bx (tokC t2) 48) := by
                  unfold Hid; rw [HE2.out]; exact HX2.out
                have HS3 := HS2
                clear g0 g1 g2 g3 g4 g5 g6 g7 g8 gf
                have HW : Hid (SrS w b1 o1 b2 o2 r R bx t2 _) := ⟨HS3.out, HX3.out⟩
                clear HS3 HX3 HX2 HS2
                refine wp_region_stable (S := (SrS w b1 o1 b2 o2 r R bx t2)) (hSt := fun _ _ h hb => h.later hb) (plan := [[(14, none)], [(17, none)], [(111, some 0), (112, some 1)], [(113, some 2)], [(18, none)], [(114, some 3), (115, some 4)]]) (by kernel_rfl) (by kernel_rfl) (by kernel_rfl) ?hS ?_
                rotate_left
                iterate 6 first
                  | (refine chain_skip (by rfl) (by rfl) ?_)
                  | (apply chain_want (by rfl)
                     · intro act wx hS hr
                       simp at hr
                       have g := FY.out _ hS.s.y
                       unfold At9 at g
                       obtain ⟨f0, f1, f2, f3, f4, f5, f6, f7, f8⟩ := g
                       have gx := hS.x
                       unfold tokC at gx
                       obtain ⟨g0, g1, g2, g3, g4, g5, g6, g7, g8⟩ := nine_cells gx
                       clear gx
                       have hq := fun w => neq_tok t2 t2 w
                       have hg := fun o1 o2 w => eqGuard_neq_tok o1 o2 t2 t2 w
                       rw [decide_eq_true rfl] at hq
                       go_simp
                       (try go_ints)
                       first
                         | exact Done.same (v := .agg (tokC t2))
                         | exact Done.same
                    )
                show ∀ w', _ → _
                intro wy hy
                simp [Act.put]
                case hS => exact HW.out
                have HY := Lib.hid hy
                clear hy
                go_wp2
                go_roundw
                case rel => exact ⟨i + 1, by omega, by go_num, HY.out.s⟩
                case measure => simp [intOf] <;> omega
            · obtain rfl : i = n := by omega
              have hltz : ¬ (i : Int) < (i : Int) := by omega
              go_wp2
              go_ret
              exact ⟨rfl, HS.out.bel⟩
end Go.Proofs.YthiibpabdkkknaaDoor
