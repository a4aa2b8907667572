/- The statement ParseOnly of layer 5, walked. -/
import Derived.Test.YtencdlcpnbdlbaaM38
import Derived.Test.YtencdlcpnbdlbaaM39
import Derived.Test.YtencdlcpnbdlbaaM40
namespace Go.Proofs.Ytencdlcpnbdlbaa
open Go Go.RowKit
set_option linter.unusedVariables false
set_option linter.unusedSimpArgs false

theorem MayP.ends {l : List Tk} (h : MayP l) : TEnds l :=
  ⟨h.pos, (h.all _ (by have := h.pos; omega)).2.2.1.2 rfl, fun p hp e => by have := (h.all p (by omega)).2.2.1.1 e; omega⟩
theorem tk_idx {l : List Tk} {t : Tk} (h : t ∈ l) : ∃ i, i < l.length ∧ tkAt l i = t := by
  obtain ⟨i, hi, e⟩ := List.getElem_of_mem h
  exact ⟨i, hi, by unfold tkAt; simp [hi, e]⟩
theorem MayP.ok {l : List Tk} (h : MayP l) : TkOk l := fun t ht => by
  obtain ⟨i, hi, rfl⟩ := tk_idx ht
  exact (h.all i hi).2.2.2.2.2
theorem MayP.txt {l : List Tk} (h : MayP l) (p : Nat) : (tkAt l p).text.length ≤ 100 := by
  by_cases hp : p < l.length
  · exact (h.all p hp).2.2.2.2.1
  · have : tkAt l p = tkEnd := by unfold tkAt; rw [List.getD_eq_getElem?_getD, List.getElem?_eq_none (by omega)]; rfl
    rw [this]; simp [tkEnd]
theorem MayP.parse {l : List Tk} (h : MayP l) (A : Option Addr) (c : Nat) (w : World) (hrow : TkRow w A l) : Calls Try.prog 9 #[.slice A l.length c] w (PParse w (parseP l)) :=
  parse_any (fun p => Nat.le_trans (h.txt p) (by decide)) h.ends (by have := h.few; omega) A c w hrow
/-- What the statement holds while it runs. -/
structure PoS (w0 : World) (A : Option Addr) (l : List Tk) (bd : Nat) (an : Option Addr) (kn N : Nat) (ns : List Nd) (aa : Option Addr) (pl : List Int) (w : World) : Prop where
  bel : Below w0.heap.size w0 w
  row : TkRow w A l
  x1 : Blk w bd #[.slice an N kn] 27
  nd : NRow w an ns
  at_ : IRow w aa pl
theorem PoS.later {w0 w w' : World} {A : Option Addr} {l : List Tk} {bd : Nat} {an : Option Addr} {kn N : Nat} {ns : List Nd} {aa : Option Addr} {pl : List Int} (h : PoS w0 A l bd an kn N ns aa pl w) (hb : Below w.heap.size w w') : PoS w0 A l bd an kn N ns aa pl w' :=
  ⟨h.bel.trans (hb.mono h.bel.size), h.row.later hb, h.x1.later hb, h.nd.later hb, h.at_.later hb⟩
theorem PoS.drew {w0 w : World} {A : Option Addr} {l : List Tk} {bd : Nat} {an : Option Addr} {kn N : Nat} {ns : List Nd} {aa : Option Addr} {pl : List Int} (h : PoS w0 A l bd an kn N ns aa pl w) (n : Nat) : PoS w0 A l bd an kn N ns aa pl (w.drewN n) := h.later (below_drewN (Below.refl _ _) n)
/-- The loop over nodes. -/
def PoG (w0 : World) (A : Option Addr) (l : List Tk) (bd : Nat) (an : Option Addr) (kn N : Nat) (ns : List Nd) (aa : Option Addr) (pl : List Int) (P : List (Nd × Int)) (kv iv : Value) (w : World) : Prop := ∃ i k : Nat, i ≤ N ∧ k ≤ l.length ∧ iv = .int .i64 (i : Int) ∧ kv = .int .i64 (k : Int) ∧ Rest P l i k ∧ PoS w0 A l bd an kn N ns aa pl w
/-- The loop over tokens within. -/
def PoH (w0 : World) (A : Option Addr) (l : List Tk) (bd : Nat) (an : Option Addr) (kn N : Nat) (ns : List Nd) (aa : Option Addr) (pl : List Int) (P : List (Nd × Int)) (i : Nat) (kv : Value) (w : World) : Prop := ∃ k : Nat, k ≤ l.length ∧ kv = .int .i64 (k : Int) ∧ Rest P l i k ∧ PoS w0 A l bd an kn N ns aa pl w
theorem pair_fst {P : List (Nd × Int)} {ns : List Nd} (h : ns = P.map (·.1)) {i : Nat} (hi : i < P.length) : ns.getD i nd0 = (P[i]'hi).1 := by subst h; simp [hi]
theorem pair_snd {P : List (Nd × Int)} {pl : List Int} (h : pl = P.map (·.2)) {i : Nat} (hi : i < P.length) : pl.getD i 0 = (P[i]'hi).2 := by subst h; simp [hi]
/-- The loop that looks for a fault's place. -/
def PoF (w0 : World) (A : Option Addr) (l : List Tk) (p : Int) (bd : Nat) (fv iv : Value) (w : World) : Prop := ∃ (k : Nat) (f : Bool), k ≤ l.length ∧ iv = .int .i64 (k : Int) ∧ fv = .bool f ∧ (f = true ↔ ∃ j, j < k ∧ (tkAt l j).at_ = p) ∧ TkRow w A l ∧ Below w0.heap.size w0 w ∧ Blk w bd #[.slice none 0 0] 27
set_option maxHeartbeats 16000000 in
set_option maxRecDepth 100000 in
theorem parseOnly_any (l : List Tk) (A : Option Addr) (c : Nat) (hl : l.length ≤ 9223372036854775807) (w : World) (hrow : TkRow w A l) : Calls Try.prog 3 #[.slice A l.length c] w (Ans w (.bool true)) := by
  have AW : Hid (∀ w, Calls Try.prog 7 #[] w (Ans w (.bool true))) := awake5_any
  have MY : Hid (∀ w, TkRow w A l → Calls Try.prog 8 #[.slice A l.length c] w (MayPost l w)) := fun w h => may_any l A c hl w h
  have HR := Lib.hid hrow
  clear hrow
  go_enter Try.func3, Try.ntmps3
  go_wp2_with fail
  refine (AW.out w).mono ?_; rintro e1 w1 ⟨rfl, hb1⟩
  have HB1 := Lib.hid hb1
  have HR1 := Lib.hid (HR.out.later hb1)
  clear hb1 HR
  go_wp2_with fail
  refine (MY.out w1 HR1.out).mono ?_; intro e2 w2 hp
  obtain ⟨b, rfl, hmay, hb2⟩ := hp
  have HB2 := Lib.hid (HB1.out.trans (hb2.mono HB1.out.size))
  have HR2 := Lib.hid (HR1.out.later hb2)
  have HM := Lib.hid hmay
  clear hb2 HR1 HB1 hmay MY
  cases b with
  | false =>
    go_wp2_with fail
    refine (AW.out w2).mono ?_; rintro e3 w3 ⟨rfl, hb3⟩
    have HB3 := Lib.hid (HB2.out.trans (hb3.mono HB2.out.size))
    clear hb3
    go_wp2
    go_ret
    exact ⟨rfl, HB3.out⟩
  | true =>
    have HM2 := Lib.hid (HM.out rfl)
    have hfew := HM2.out.few
    clear HM AW
    have PC := Lib.hid (HM2.out.parse A c w2 HR2.out)
    obtain ⟨r, hr⟩ : ∃ r, parseP l = r := ⟨_, rfl⟩
    rw [hr] at PC
    have HP := Lib.hid hr
    clear hr
    go_wp2_with fail
    refine PC.out.mono ?_; intro e3 w3 hq
    clear PC
    cases r with
    | out => exact absurd hq id
    | bad er p =>
      obtain ⟨rfl, hb3⟩ := hq
      have hne : (er != 0) = true := by rw [bne_iff_ne]; have := parse_err HP.out; omega
      have HAT := Lib.hid (parse_at HM2.out.ends HP.out)
      have hbb := (Below.refl w3.heap.size w3).alloc (Nat.le_refl _) (.cells #[.slice none 0 0] 27)
      have HB4 := Lib.hid ((HB2.out.trans (hb3.mono HB2.out.size)).trans (hbb.mono (HB2.out.trans (hb3.mono HB2.out.size)).size))
      have HR4 := Lib.hid ((HR2.out.later hb3).later hbb)
      have HX4 := Lib.hid (Blk.new w3 #[.slice none 0 0] 27)
      clear hb3 hbb HB2 HR2 HP HM2
      go_upto_region 4 with (fail)
      generalize w3.alloc (.cells #[.slice none 0 0] 27) = w4 at *
      generalize w3.heap.size = bd at *
      have HL : Hid (PoF w A l p bd (.bool false) (.int .i64 0) w4) := ⟨0, false, Nat.zero_le _, rfl, rfl, ⟨fun h => (by cases h), fun ⟨j, h, _⟩ => by omega⟩, HR4.out, HB4.out, HX4.out⟩
      clear HB4 HR4 HX4
      go_wp2
      clear hne
      go_loopw [7, 8] (PoF w A l p bd) (fun _ i _ => l.length - (intOf i).toNat)
      case atStart => exact HL.out
      case round =>
        obtain ⟨k, f, hk, rfl, rfl, hf, hr, hb, hx⟩ := hrel
        have HR := Lib.hid hr
        have HB := Lib.hid hb
        have HX := Lib.hid hx
        have HF := Lib.hid hf
        clear hf hr hb hx HL
        by_cases hlt : k < l.length
        · obtain ⟨b, o, hA, -, -⟩ := HR.out k hlt
          subst hA
          have g := HR.out.at hlt rfl
          obtain ⟨x, hxx⟩ : ∃ x, tkAt l k = x := ⟨_, rfl⟩
          rw [hxx] at g
          have HXX := Lib.hid hxx
          clear hxx
          unfold At9K at g
          obtain ⟨g0, g1, g2, g3, g4, g5, g6, g7, g8⟩ := g
          have hltz : (k : Int) < (l.length : Int) := by omega
          have hw1 := wrap_of (by omega : (k : Int) + 1 ≤ 1073741824) (by omega : (0 : Int) ≤ (k : Int) + 1)
          cases f with
          | true =>
            have HF2 : Hid ((true = true) ↔ ∃ j, j < k + 1 ∧ (tkAt l j).at_ = p) := ⟨fun h => by obtain ⟨j, h1, h2⟩ := HF.out.1 h; exact ⟨j, by omega, h2⟩, fun _ => rfl⟩
            go_wp2
            go_roundw
            case rel => exact ⟨k + 1, true, hlt, by go_num, rfl, HF2.out, HR.out, HB.out, HX.out⟩
            case measure => simp [intOf]; omega
          | false =>
            have HNO : Hid (∀ j, j < k → (tkAt l j).at_ ≠ p) := fun j h e => by have := HF.out.2 ⟨j, h, e⟩; cases this
            by_cases hp : x.at_ = p
            · have hq : (x.at_ == p) = true := by rw [hp]; simp
              have HF2 : Hid ((true = true) ↔ ∃ j, j < k + 1 ∧ (tkAt l j).at_ = p) := ⟨fun _ => ⟨k, by omega, by rw [HXX.out]; exact hp⟩, fun _ => rfl⟩
              clear hp
              go_wp2
              go_roundw
              case rel => exact ⟨k + 1, true, hlt, by go_num, rfl, HF2.out, HR.out, HB.out, HX.out⟩
              case measure => simp [intOf]; omega
            · have hq : (x.at_ == p) = false := beq_false_of_ne hp
              have HF2 : Hid ((false = true) ↔ ∃ j, j < k + 1 ∧ (tkAt l j).at_ = p) := ⟨fun h => (by cases h), fun ⟨j, h1, h2⟩ => by
                rcases Nat.lt_or_ge j k with h | h
                · exact absurd h2 (HNO.out j h)
                · obtain rfl : j = k := by omega
                  rw [HXX.out] at h2; exact absurd h2 hp⟩
              have HPN := Lib.hid hp
              clear hp
              go_wp2
              go_roundw
              case rel => exact ⟨k + 1, false, hlt, by go_num, rfl, HF2.out, HR.out, HB.out, HX.out⟩
              case measure => simp [intOf]; omega
        · have hltz : ¬ (k : Int) < (l.length : Int) := by omega
          obtain rfl : k = l.length := by omega
          obtain rfl : f = true := by
            obtain ⟨t, ht, hp⟩ := HAT.out
            obtain ⟨i, hi, e⟩ := tk_idx ht
            exact HF.out.2 ⟨i, hi, by rw [e]; exact hp⟩
          have d0 := HX.out.cell 0
          simp at d0
          go_wp2
          go_ret
          exact ⟨rfl, HB.out⟩
    | ok k t =>
      obtain ⟨nv, av, rfl, hn, ha, hb3⟩ := hq
      obtain ⟨an, kn, rfl, hrn⟩ := hn.row
      obtain ⟨aa, ka, rfl, hra⟩ := ha.row
      obtain ⟨P, hP1, hP2, hP3, hP4⟩ := parse_marks HM2.out.ends HP.out
      obtain ⟨hfm, hfl⟩ := parse_form HM2.out.ok HP.out
      have htx := parse_txt (B := 100) HM2.out.txt HP.out
      unfold TxtOf at htx
      have hN1 : t.nodes.length = P.length := by rw [hP1]; simp
      have hN2 : t.ats.length = P.length := by rw [hP2]; simp
      have FC : Hid (∀ w, NRow w an t.nodes → Calls Try.prog 10 #[.agg #[.slice an P.length kn]] w (Ans w (.bool true))) := fun w h => by
        have q := refform_any t.nodes an kn (by omega) (fun n hn => Nat.le_trans (htx n hn) (by decide)) w h
        rw [formB_eq hfm, hN1] at q; exact q
      rw [hN1, hN2]
      have hbb := (Below.refl w3.heap.size w3).alloc (Nat.le_refl _) (.cells #[.slice an P.length kn] 27)
      have HS : Hid (PoS w A l w3.heap.size an kn P.length t.nodes aa t.ats (w3.alloc (.cells #[.slice an P.length kn] 27))) :=
        ⟨(HB2.out.trans (hb3.mono HB2.out.size)).trans (hbb.mono (HB2.out.trans (hb3.mono HB2.out.size)).size), (HR2.out.later hb3).later hbb, Blk.new _ _ _, hrn.later hbb, hra.later hbb⟩
      have HP1 := Lib.hid hP1
      have HP2 := Lib.hid hP2
      have HP3 := Lib.hid hP3
      have HP4 := Lib.hid hP4
      have HPL : Hid (P.length ≤ 4096) := by unfold Hid; omega
      clear hb3 hbb HB2 HR2 HP HM2 hn ha hrn hra hP1 hP2 hP3 hP4 hfm hfl htx hN1 hN2
      generalize t.nodes = ns at *
      generalize t.ats = pl at *
      go_upto_region 4 with (fail)
      generalize w3.alloc (.cells #[.slice an P.length kn] 27) = w4 at *
      generalize w3.heap.size = bd at *
      obtain ⟨N, hN⟩ : ∃ N, P.length = N := ⟨_, rfl⟩
      rw [hN] at HS FC HPL ⊢
      have HN := Lib.hid hN
      clear hN
      have d0 := HS.out.x1.cell 0
      simp at d0
      go_wp2_with fail
      refine (FC.out w4 HS.out.nd).mono ?_; rintro e5 w5 ⟨rfl, hb5⟩
      have HS5 := Lib.hid (HS.out.later hb5)
      clear hb5 HS FC d0
      have d0 := HS5.out.x1.cell 0
      simp at d0
      have HL : Hid (PoG w A l bd an kn N ns aa pl P (.int .i64 0) (.int .i64 0) w5) := ⟨0, 0, Nat.zero_le _, Nat.zero_le _, rfl, rfl, Rest.start HP4.out, HS5.out⟩
      clear HS5 HP4
      go_wp2
      clear d0
      go_loopw [9, 10] (PoG w A l bd an kn N ns aa pl P) (fun _ i _ => N - (intOf i).toNat)
      case atStart => exact HL.out
      case round =>
        obtain ⟨i, k, hi, hk, rfl, rfl, hrest, hs⟩ := hrel
        have HS := Lib.hid hs
        have HRS := Lib.hid hrest
        clear hs hrest HL
        have d0 := HS.out.x1.cell 0
        simp at d0
        have hN := HPL.out
        by_cases hlt : i < N
        · have hltz : (i : Int) < (N : Int) := by omega
          have hip : i < P.length := by rw [HN.out]; exact hlt
          have hln : i < ns.length := by rw [HP1.out]; simpa using hip
          have hla : i < pl.length := by rw [HP2.out]; simpa using hip
          obtain ⟨bn, on, hAn, -, -⟩ := HS.out.nd i hln
          obtain ⟨ba, oa, hAa, -, hca⟩ := HS.out.at_ i hla
          subst hAn hAa
          have gn : At10 wr bn (on + i * 10) (ns.getD i nd0) := HS.out.nd.at hln rfl
          rw [pair_fst HP1.out hip] at gn
          rw [pair_snd HP2.out hip] at hca
          have hnk := HP3.out (P[i]'hip) (List.getElem_mem _)
          have HNK := Lib.hid hnk
          have HNODE : Hid (isSt (P[i]'hip).1.kind = false → Rest P l (i + 1) k) := fun h => HRS.out.node hip h
          have HMORE : Hid (isSt (P[i]'hip).1.kind = true → ∀ k, Rest P l i k → k < l.length) := fun h k hr => hr.more hip h
          have HHIT : Hid (isSt (P[i]'hip).1.kind = true → ∀ k, Rest P l i k → k < l.length → isSt (tkAt l k).kind = true → (P[i]'hip).1.kind = (tkAt l k).kind ∧ (P[i]'hip).2 = (tkAt l k).at_ ∧ Rest P l (i + 1) (k + 1)) := fun h k hr hk ht => hr.hit hip h hk ht
          clear hnk
          have HCELL : Hid (∀ w', PoS w A l bd (some ⟨bn, on, none⟩) kn N ns (some ⟨ba, oa, none⟩) pl w' → w'.cell? ⟨bn, on + i * 10, none⟩ = some (.int .i64 (P[i]'hip).1.kind) ∧ w'.cell? ⟨ba, oa + i, none⟩ = some (.int .i64 (P[i]'hip).2) ∧ w'.cell? ⟨bd, 0, none⟩ = some (.slice (some ⟨bn, on, none⟩) N kn)) := fun w' h => by
            have g : At10 w' bn (on + i * 10) (ns.getD i nd0) := h.nd.at hln rfl
            obtain ⟨b', o', h1, _, h2⟩ := h.at_ i hla
            cases h1
            rw [pair_snd HP2.out hip] at h2
            rw [pair_fst HP1.out hip] at g
            have h3 := h.x1.cell 0
            exact ⟨g.1, h2, by simpa using h3⟩
          generalize (P[i]'hip).1 = y at *
          generalize (P[i]'hip).2 = q at *
          unfold At10 at gn
          obtain ⟨g0, -, -, -, -, -, -, -, -, -⟩ := gn
          have hw1 := wrap_of (by omega : (i : Int) + 1 ≤ 1073741824) (by omega : (0 : Int) ≤ (i : Int) + 1)
          cases hst : isSt y.kind with
          | false =>
            have hq := HNK.out hst
            subst hq
            have HR2 := Lib.hid (HNODE.out hst)
            have e6 : (y.kind == 6) = false := beq_false_of_ne (fun e => by rw [e] at hst; revert hst; decide)
            have e7 : (y.kind == 7) = false := beq_false_of_ne (fun e => by rw [e] at hst; revert hst; decide)
            clear hst
            go_wp2
            go_roundw
            case rel => exact ⟨i + 1, k, hlt, hk, by go_num, rfl, HR2.out, HS.out⟩
            case measure => simp [intOf]; omega
          | true =>
            rcases isSt_two.1 hst with hky | hky
            · skip
              have e6 : (y.kind == 6) = true := by rw [hky]; rfl
              have e7 : (y.kind == 7) = false := by rw [hky]; rfl
              have HKY := Lib.hid hky
              have HST := Lib.hid hst
              have HIL : Hid (PoH w A l bd (some ⟨bn, on, none⟩) kn N ns (some ⟨ba, oa, none⟩) pl P i (.int .i64 (k : Int)) wr) := ⟨k, hk, rfl, HRS.out, HS.out⟩
              clear hky hst HNODE HNK HRS HS
              go_wp2
              clear d0 hca g0
              go_loopw [9] (PoH w A l bd (some ⟨bn, on, none⟩) kn N ns (some ⟨ba, oa, none⟩) pl P i) (fun kv _ => l.length - (intOf kv).toNat)
              case atStart => exact HIL.out
              case round =>
                obtain ⟨k', hk', rfl, hrest, hs⟩ := hrel
                have hkl := HMORE.out HST.out k' hrest
                have HH := Lib.hid (HHIT.out HST.out k' hrest hkl)
                have HC := Lib.hid (HCELL.out _ hs)
                have HTOK : Hid (isSt (tkAt l k').kind = false → Rest P l i (k' + 1)) := fun h => hrest.tok hkl h
                obtain ⟨b, o, hA, -, -⟩ := hs.row k' hkl
                subst hA
                have g := hs.row.at hkl rfl
                have HS := Lib.hid hs
                obtain ⟨x, hxx⟩ : ∃ x, tkAt l k' = x := ⟨_, rfl⟩
                rw [hxx] at g HH HTOK
                clear hxx hrest hs HIL
                unfold At9K at g
                obtain ⟨t0, t1, t2, t3, t4, t5, t6, t7, t8⟩ := g
                obtain ⟨g0, hca, d0⟩ := HC.out
                have hklz : (k' : Int) < (l.length : Int) := by omega
                have ek : ((k' : Int) == (l.length : Int)) = false := beq_false_of_ne (by omega)
                have hw2 := wrap_of (by omega : (k' : Int) + 1 ≤ 1073741824) (by omega : (0 : Int) ≤ (k' : Int) + 1)
                cases hsx : isSt x.kind with
                | false =>
                  have HTK := Lib.hid (HTOK.out hsx)
                  have x6 : (x.kind != 6) = true := by rw [bne_iff_ne]; intro e; rw [e] at hsx; revert hsx; decide
                  have x7 : (x.kind != 7) = true := by rw [bne_iff_ne]; intro e; rw [e] at hsx; revert hsx; decide
                  clear hsx
                  go_wp2
                  go_roundw
                  case rel => exact ⟨k' + 1, hkl, by go_num, HTK.out, HS.out⟩
                  case measure => simp [intOf]; omega
                | true =>
                  obtain ⟨hk1, hk2, hk3⟩ := HH.out hsx
                  have HR3 := Lib.hid hk3
                  subst hk2
                  have hxk : x.kind = 6 := hk1.symm.trans HKY.out
                  have x6 : (x.kind != 6) = false := by rw [hxk]; rfl
                  have x7 : (x.kind != 7) = true := by rw [hxk]; rfl
                  have z7 : (x.kind == 7) = false := by rw [hxk]; rfl
                  have eat : (x.at_ != x.at_) = false := by simp
                  clear hk1 hk3 hsx hxk HH HTOK
                  go_upto_region 23 with (fail)
                  go_quiet (fail)
                  have HS9 := Lib.hid (HS.out.drew nq)
                  go_wp2
                  go_roundw
                  case rel => exact ⟨i + 1, k' + 1, hlt, hkl, by go_num, by go_num, HR3.out, HS9.out⟩
                  case measure => simp [intOf]; omega
            · skip
              have e6 : (y.kind == 6) = false := by rw [hky]; rfl
              have e7 : (y.kind == 7) = true := by rw [hky]; rfl
              have HKY := Lib.hid hky
              have HST := Lib.hid hst
              have HIL : Hid (PoH w A l bd (some ⟨bn, on, none⟩) kn N ns (some ⟨ba, oa, none⟩) pl P i (.int .i64 (k : Int)) wr) := ⟨k, hk, rfl, HRS.out, HS.out⟩
              clear hky hst HNODE HNK HRS HS
              go_wp2
              clear d0 hca g0
              go_loopw [9] (PoH w A l bd (some ⟨bn, on, none⟩) kn N ns (some ⟨ba, oa, none⟩) pl P i) (fun kv _ => l.length - (intOf kv).toNat)
              case atStart => exact HIL.out
              case round =>
                obtain ⟨k', hk', rfl, hrest, hs⟩ := hrel
                have hkl := HMORE.out HST.out k' hrest
                have HH := Lib.hid (HHIT.out HST.out k' hrest hkl)
                have HC := Lib.hid (HCELL.out _ hs)
                have HTOK : Hid (isSt (tkAt l k').kind = false → Rest P l i (k' + 1)) := fun h => hrest.tok hkl h
                obtain ⟨b, o, hA, -, -⟩ := hs.row k' hkl
                subst hA
                have g := hs.row.at hkl rfl
                have HS := Lib.hid hs
                obtain ⟨x, hxx⟩ : ∃ x, tkAt l k' = x := ⟨_, rfl⟩
                rw [hxx] at g HH HTOK
                clear hxx hrest hs HIL
                unfold At9K at g
                obtain ⟨t0, t1, t2, t3, t4, t5, t6, t7, t8⟩ := g
                obtain ⟨g0, hca, d0⟩ := HC.out
                have hklz : (k' : Int) < (l.length : Int) := by omega
                have ek : ((k' : Int) == (l.length : Int)) = false := beq_false_of_ne (by omega)
                have hw2 := wrap_of (by omega : (k' : Int) + 1 ≤ 1073741824) (by omega : (0 : Int) ≤ (k' : Int) + 1)
                cases hsx : isSt x.kind with
                | false =>
                  have HTK := Lib.hid (HTOK.out hsx)
                  have x6 : (x.kind != 6) = true := by rw [bne_iff_ne]; intro e; rw [e] at hsx; revert hsx; decide
                  have x7 : (x.kind != 7) = true := by rw [bne_iff_ne]; intro e; rw [e] at hsx; revert hsx; decide
                  clear hsx
                  go_wp2
                  go_roundw
                  case rel => exact ⟨k' + 1, hkl, by go_num, HTK.out, HS.out⟩
                  case measure => simp [intOf]; omega
                | true =>
                  obtain ⟨hk1, hk2, hk3⟩ := HH.out hsx
                  have HR3 := Lib.hid hk3
                  subst hk2
                  have hxk : x.kind = 7 := hk1.symm.trans HKY.out
                  have x6 : (x.kind != 6) = true := by rw [hxk]; rfl
                  have x7 : (x.kind != 7) = false := by rw [hxk]; rfl
                  have z7 : (x.kind == 7) = true := by rw [hxk]; rfl
                  have eat : (x.at_ != x.at_) = false := by simp
                  clear hk1 hk3 hsx hxk HH HTOK
                  go_upto_region 23 with (fail)
                  go_quiet (fail)
                  have HS9 := Lib.hid (HS.out.drew nq)
                  go_wp2
                  go_roundw
                  case rel => exact ⟨i + 1, k' + 1, hlt, hkl, by go_num, by go_num, HR3.out, HS9.out⟩
                  case measure => simp [intOf]; omega
        · have hltz : ¬ (i : Int) < (N : Int) := by omega
          obtain rfl : i = N := by omega
          have HIL : Hid (PoH w A l bd an kn i ns aa pl P i (.int .i64 (k : Int)) wr) := ⟨k, hk, rfl, HRS.out, HS.out⟩
          clear HRS HS
          go_wp2
          clear d0
          go_loopw [9] (PoH w A l bd an kn i ns aa pl P i) (fun kv _ => l.length - (intOf kv).toNat)
          case atStart => exact HIL.out
          case round =>
            obtain ⟨k', hk', rfl, hrest, hs⟩ := hrel
            have HS := Lib.hid hs
            have HRS := Lib.hid hrest
            clear hs hrest HIL
            by_cases hkl : k' < l.length
            · obtain ⟨b, o, hA, -, -⟩ := HS.out.row k' hkl
              subst hA
              have g := HS.out.row.at hkl rfl
              have hd := HRS.out.done (Nat.le_of_eq HN.out) hkl
              have HTK := Lib.hid (HRS.out.tok hkl hd)
              obtain ⟨x, hxx⟩ : ∃ x, tkAt l k' = x := ⟨_, rfl⟩
              rw [hxx] at g hd
              clear hxx
              unfold At9K at g
              obtain ⟨t0, t1, t2, t3, t4, t5, t6, t7, t8⟩ := g
              have hklz : (k' : Int) < (l.length : Int) := by omega
              have hw2 := wrap_of (by omega : (k' : Int) + 1 ≤ 1073741824) (by omega : (0 : Int) ≤ (k' : Int) + 1)
              have x6 : (x.kind == 6) = false := beq_false_of_ne (fun e => by rw [e] at hd; revert hd; decide)
              have x7 : (x.kind == 7) = false := beq_false_of_ne (fun e => by rw [e] at hd; revert hd; decide)
              clear hd
              go_wp2
              go_roundw
              case rel => exact ⟨k' + 1, hkl, by go_num, HTK.out, HS.out⟩
              case measure => simp [intOf]; omega
            · have hklz : ¬ (k' : Int) < (l.length : Int) := by omega
              go_wp2
              go_ret
              exact ⟨rfl, HS.out.bel⟩
end Go.Proofs.Ytencdlcpnbdlbaa
