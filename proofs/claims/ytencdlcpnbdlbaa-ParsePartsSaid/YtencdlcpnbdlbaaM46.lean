/- The statement ParseParts of layer 5, walked. -/
import Derived.Test.YtencdlcpnbdlbaaM41
import Derived.Test.YtencdlcpnbdlbaaM44
import Derived.Test.YtencdlcpnbdlbaaM45
namespace Go.Proofs.Ytencdlcpnbdlbaa
open Go Go.RowKit
set_option linter.unusedVariables false
set_option linter.unusedSimpArgs false

theorem OwnK.one {w : World} {base g : Nat} {t : Tk} (h : Blk w g (tkC t) 36) (hb : base ≤ g) : OwnK w base (.slice (some ⟨g, 0, none⟩) 1 1) [t] :=
  ⟨rfl, .inr ⟨g, 1, tkC t, rfl, hb, h, Nat.le_refl _, by unfold maxLen; omega, rfl, by simp [flatK]; rfl⟩⟩
/-- How Parse ends, in one form. -/
theorem PParse.any {w w' : World} {r : PR} {e : Ending} (h : PParse w r e w') (hr : ∀ er p, r = .bad er p → er ≠ 0) : ∃ (A : Option Addr) (n c : Nat) (aa : Option Addr) (na ca : Nat) (er p : Int), e = .returned (.tuple #[.agg #[.slice A n c], .slice aa na ca, .int .i64 er, .int .i64 p]) ∧ Below w.heap.size w w' ∧ ((er = 0 ∧ ∃ k t, r = .ok k t ∧ n = t.nodes.length ∧ n ≤ c ∧ NRow w' A t.nodes) ∨ er ≠ 0) := by
  cases r with
  | out => exact absurd h id
  | bad er p =>
    obtain ⟨rfl, hb⟩ := h
    exact ⟨none, 0, 0, none, 0, 0, er, p, rfl, hb, .inr (hr er p rfl)⟩
  | ok k t =>
    obtain ⟨nv, av, rfl, hn, ha, hb⟩ := h
    obtain ⟨A, c, hc, hv, hrow⟩ := hn.isD
    obtain rfl : nv = .slice A t.nodes.length c := by simpa using hv
    obtain ⟨aa, ka, rfl, -⟩ := ha.row
    exact ⟨A, _, c, aa, _, ka, 0, 0, rfl, hb, .inl ⟨rfl, k, t, rfl, rfl, hc, hrow⟩⟩
structure PpS (w0 : World) (A B : Option Addr) (a b : List Tk) (w : World) : Prop where
  bel : Below w0.heap.size w0 w
  ra : TkRow w A a
  rb : TkRow w B b
theorem PpS.later {w0 w w' : World} {A B : Option Addr} {a b : List Tk} (h : PpS w0 A B a b w) (hb : Below w.heap.size w w') : PpS w0 A B a b w' := ⟨h.bel.trans (hb.mono h.bel.size), h.ra.later hb, h.rb.later hb⟩
/-- What is kept while memory grows. -/
def SF (F : World → Prop) (w : World) : Prop := F w ∧ ∀ w w', F w → Below w.heap.size w w' → F w'
theorem SF.later {F : World → Prop} {w w' : World} (h : SF F w) (hb : Below w.heap.size w w') : SF F w' := ⟨h.2 _ _ h.1 hb, h.2⟩
theorem SF.add {F G : World → Prop} {w : World} (h : SF F w) (k : SF G w) : SF (fun w => F w ∧ G w) w := ⟨⟨h.1, k.1⟩, fun w w' x hb => ⟨h.2 w w' x.1 hb, k.2 w w' x.2 hb⟩⟩
/-- A description in a box. -/
structure Bd (b : Nat) (A : Option Addr) (l : List Nd) (c : Nat) (w : World) : Prop where
  blk : Blk w b #[.slice A l.length c] 27
  row : NRow w A l
  cap : l.length ≤ c
theorem Bd.later {b : Nat} {A : Option Addr} {l : List Nd} {c : Nat} {w w' : World} (h : Bd b A l c w) (hb : Below w.heap.size w w') : Bd b A l c w' := ⟨h.blk.later hb, h.row.later hb, h.cap⟩
theorem Bd.isD {b : Nat} {A : Option Addr} {l : List Nd} {c : Nat} {w : World} (h : Bd b A l c w) : IsD l (.agg #[.slice A l.length c]) w := ⟨A, c, h.cap, rfl, h.row⟩
theorem Bd.sf {b : Nat} {A : Option Addr} {l : List Nd} {c : Nat} {w : World} (h : Bd b A l c w) : SF (Bd b A l c) w := ⟨h, fun _ _ x hb => x.later hb⟩
theorem JnW.sf {g : Nat} {L : List Tk} {w : World} (h : JnW w g L) : SF (fun w => JnW w g L) w := ⟨h, fun _ _ x hb => x.later hb⟩
theorem PpS.sf {w0 w : World} {A B : Option Addr} {a b : List Tk} (h : PpS w0 A B a b w) : SF (PpS w0 A B a b) w := ⟨h, fun _ _ x hb => x.later hb⟩
/-- Two constant tokens in a new block. -/
theorem two_jn {w : World} {g : Nat} {k : Int} (h : Blk w g #[.int .i64 k, .int .i64 0, .int .u64 0, .int .u64 0, .int .u64 0, .int .u64 0, .string ⟨#[]⟩, .int .i64 0, .int .i64 0, .int .i64 10, .int .i64 0, .int .u64 0, .int .u64 0, .int .u64 0, .int .u64 0, .string ⟨#[]⟩, .int .i64 0, .int .i64 0] 36) : JnW w g [{ kind := k }, { kind := 10 }] := by
  have e : flatK [({ kind := k } : Tk), { kind := 10 }] = (tkC (mkK k)).toList ++ ((tkC (mkK 10)).toList ++ []) := rfl
  rw [tkC_pl, tkC_pl] at e
  refine ⟨_, h, Nat.le_refl _, fun j hj => ?_⟩
  rw [e]; simp
theorem join_len {a b : List Tk} {k : Int} : (joinL a k b).length = (a.length - 1) + (midK k).length + b.length := by unfold joinL; simp; omega
theorem mid_len (k : Int) : (midK k).length ≤ 1 := by unfold midK; split <;> simp
theorem Form.kindsP {l : List Nd} (h : Form l) : ∀ n ∈ l, n.kind ≤ 9 := fun n hn => by
  obtain ⟨i, hi, e⟩ := List.mem_iff_getElem.1 hn
  have ha : atN l i = n := by unfold atN; rw [List.getD_eq_getElem?_getD, List.getElem?_eq_getElem hi]; exact e
  have := (h.2.1 i hi).kind9
  rwa [ha] at this
structure Pp5 (w0 : World) (A B : Option Addr) (a b : List Tk) (b1 b2 : Nat) (A1 A2 : Option Addr) (un vn : List Nd) (c1 c2 ob sb : Nat) (w : World) : Prop where
  s : PpS w0 A B a b w
  d : Bd b1 A1 un c1 w
  c : Bd b2 A2 vn c2 w
  op : JnW w ob opnP
  sh : JnW w sb shtP
theorem Pp5.later {w0 : World} {A B : Option Addr} {a b : List Tk} {b1 b2 : Nat} {A1 A2 : Option Addr} {un vn : List Nd} {c1 c2 ob sb : Nat} {w w' : World} (h : Pp5 w0 A B a b b1 b2 A1 A2 un vn c1 c2 ob sb w) (hb : Below w.heap.size w w') : Pp5 w0 A B a b b1 b2 A1 A2 un vn c1 c2 ob sb w' :=
  ⟨h.s.later hb, h.d.later hb, h.c.later hb, h.op.later hb, h.sh.later hb⟩
structure PpZ (w0 : World) (A B : Option Addr) (a b : List Tk) (b1 b2 : Nat) (A1 A2 : Option Addr) (un vn : List Nd) (c1 c2 ob sb : Nat) (bi bo br bw : Nat) (AI AO AR AW : Option Addr) (P5 P4 W9 : List Nd) (cI cO cR cW : Nat) (w : World) : Prop where
  g : Pp5 w0 A B a b b1 b2 A1 A2 un vn c1 c2 ob sb w
  i : Bd bi AI un cI w
  o : Bd bo AO P5 cO w
  r : Bd br AR P4 cR w
  t : Bd bw AW W9 cW w
theorem PpZ.later {w0 : World} {A B : Option Addr} {a b : List Tk} {b1 b2 : Nat} {A1 A2 : Option Addr} {un vn : List Nd} {c1 c2 ob sb : Nat} {bi bo br bw : Nat} {AI AO AR AW : Option Addr} {P5 P4 W9 : List Nd} {cI cO cR cW : Nat} {w w' : World} (h : PpZ w0 A B a b b1 b2 A1 A2 un vn c1 c2 ob sb bi bo br bw AI AO AR AW P5 P4 W9 cI cO cR cW w) (hb : Below w.heap.size w w') : PpZ w0 A B a b b1 b2 A1 A2 un vn c1 c2 ob sb bi bo br bw AI AO AR AW P5 P4 W9 cI cO cR cW w' :=
  ⟨h.g.later hb, h.i.later hb, h.o.later hb, h.r.later hb, h.t.later hb⟩
set_option maxHeartbeats 32000000 in
set_option maxRecDepth 100000 in
theorem parseParts_any (a b : List Tk) (A B : Option Addr) (ca cb : Nat) (hla : a.length ≤ 9223372036854775807) (hlb : b.length ≤ 9223372036854775807) (hca : a.length ≤ ca) (hcb : b.length ≤ cb) (w : World) (ra : TkRow w A a) (rb : TkRow w B b) : Calls Try.prog 4 #[.slice A a.length ca, .slice B b.length cb] w (Ans w (.bool true)) := by
  have AW : Hid (∀ w, Calls Try.prog 7 #[] w (Ans w (.bool true))) := awake5_any
  have MA : Hid (∀ w, TkRow w A a → Calls Try.prog 8 #[.slice A a.length ca] w (MayPost a w)) := fun w h => may_any a A ca hla w h
  have MB : Hid (∀ w, TkRow w B b → Calls Try.prog 8 #[.slice B b.length cb] w (MayPost b w)) := fun w h => may_any b B cb hlb w h
  have HRA := Lib.hid ra
  have HRB := Lib.hid rb
  clear ra rb
  go_enter Try.func4, Try.ntmps4
  go_wp2_with fail
  refine (AW.out w).mono ?_; rintro e1 w1 ⟨rfl, hb1⟩
  have HS : Hid (PpS w A B a b w1) := ⟨hb1, HRA.out.later hb1, HRB.out.later hb1⟩
  clear hb1 HRA HRB
  go_wp2_with fail
  refine (MA.out w1 HS.out.ra).mono ?_; intro e2 w2 hp
  obtain ⟨m1, rfl, hmay, hb2⟩ := hp
  have HS2 := Lib.hid (HS.out.later hb2)
  have HM1 := Lib.hid hmay
  clear hb2 hmay MA HS
  cases m1 with
  | false =>
    have HB2 := Lib.hid HS2.out.bel
    go_wp2_with fail
    refine (AW.out _).mono ?_; rintro e3 w3 ⟨rfl, hb3⟩
    have HB3 := Lib.hid (HB2.out.trans (hb3.mono HB2.out.size))
    clear hb3
    go_wp2
    go_ret
    exact ⟨rfl, HB3.out⟩
  | true =>
    have HMA := Lib.hid (HM1.out rfl)
    clear HM1
    go_wp2_with fail
    refine (MB.out w2 HS2.out.rb).mono ?_; intro e3 w3 hp
    obtain ⟨m2, rfl, hmay, hb3⟩ := hp
    have HS3 := Lib.hid (HS2.out.later hb3)
    have HM2 := Lib.hid hmay
    clear hb3 hmay MB HS2
    cases m2 with
    | false =>
      have HB2 := Lib.hid HS3.out.bel
      go_wp2_with fail
      refine (AW.out _).mono ?_; rintro e3 w3 ⟨rfl, hb3⟩
      have HB3 := Lib.hid (HB2.out.trans (hb3.mono HB2.out.size))
      clear hb3
      go_wp2
      go_ret
      exact ⟨rfl, HB3.out⟩
    | true =>
      have HMB := Lib.hid (HM2.out rfl)
      clear HM2 AW
      obtain ⟨bA, oA, hA, -, -⟩ := HS3.out.ra 0 HMA.out.pos
      subst hA
      obtain ⟨bB, oB, hB, -, -⟩ := HS3.out.rb 0 HMB.out.pos
      subst hB
      have HLA : Hid (([mkK 3] : List Tk).length + a.length < 1073741824) := by unfold Hid; have := HMA.out.few; simp; omega
      have HLB : Hid (([mkK 3] : List Tk).length + b.length < 1073741824) := by unfold Hid; have := HMB.out.few; simp; omega
      have HS := HS3
      clear HS3
      have HXN : Hid (Blk (w3.alloc (.cells #[.int .i64 3, .int .i64 0, .int .u64 0, .int .u64 0, .int .u64 0, .int .u64 0, .string ⟨#[]⟩, .int .i64 0, .int .i64 0] 36)) w3.heap.size (tkC (mkK 3)) 36) := by unfold Hid; rw [tkC_pl]; exact Blk.new _ _ _
      have HS4 := Lib.hid (HS.out.later ((Below.refl w3.heap.size w3).alloc (Nat.le_refl _) (.cells #[.int .i64 3, .int .i64 0, .int .u64 0, .int .u64 0, .int .u64 0, .int .u64 0, .string ⟨#[]⟩, .int .i64 0, .int .i64 0] 36)))
      have HBL := Lib.hid ((Below.refl w3.heap.size w3).alloc (Nat.le_refl _) (.cells #[.int .i64 3, .int .i64 0, .int .u64 0, .int .u64 0, .int .u64 0, .int .u64 0, .string ⟨#[]⟩, .int .i64 0, .int .i64 0] 36))
      have HOW := Lib.hid (HXN.out.later (Below.refl _ _))
      go_wp2_with (at_builtin; refine wpList_append_tkrow rfl _ _ rfl w3.heap.size (.slice (some ⟨w3.heap.size, 0, none⟩) 1 1) [mkK 3] rfl (OwnK.one HXN.out (Nat.le_refl _)) bA oA ca a rfl HS4.out.ra HLA.out HBL.out.size ?_; intro v' w5 ho hb; have HO := Lib.hid ho; have HS5 := Lib.hid (HS.out.later (HBL.out.trans (hb _ (Nat.le_refl _)))); obtain ⟨a5, c5, rfl, hr5⟩ := ho.row; have HR5 := Lib.hid hr5; clear ho hb hr5 HXN HS4 HBL HOW HO)
      refine (rdeep_any ([mkK 3] ++ a) a5 c5 (Nat.le_of_lt (by have := HLA.out; rw [List.length_append]; exact this)) w5 HR5.out).mono ?_; intro e6 w6 hp
      obtain ⟨dp, db, rfl, hb6, hd0, -⟩ := hp
      have HS6 := Lib.hid (HS5.out.later hb6)
      have HD0 : Hid (db = false → ∀ i, cntO a 1 i ≤ 64) := fun h => cnt_all (hd0 h)
      clear hb6 hd0 HR5 HS5 HS
      cases db with
      | true =>
        go_wp2
        go_ret
        exact ⟨rfl, HS6.out.bel⟩
      | false =>
        have HCA := Lib.hid (HD0.out rfl)
        clear HD0
        go_upto_region 6 with (fail)
        have HS := HS6
        clear HS6
        have HXN : Hid (Blk (w6.alloc (.cells #[.int .i64 3, .int .i64 0, .int .u64 0, .int .u64 0, .int .u64 0, .int .u64 0, .string ⟨#[]⟩, .int .i64 0, .int .i64 0] 36)) w6.heap.size (tkC (mkK 3)) 36) := by unfold Hid; rw [tkC_pl]; exact Blk.new _ _ _
        have HS4 := Lib.hid (HS.out.later ((Below.refl w6.heap.size w6).alloc (Nat.le_refl _) (.cells #[.int .i64 3, .int .i64 0, .int .u64 0, .int .u64 0, .int .u64 0, .int .u64 0, .string ⟨#[]⟩, .int .i64 0, .int .i64 0] 36)))
        have HBL := Lib.hid ((Below.refl w6.heap.size w6).alloc (Nat.le_refl _) (.cells #[.int .i64 3, .int .i64 0, .int .u64 0, .int .u64 0, .int .u64 0, .int .u64 0, .string ⟨#[]⟩, .int .i64 0, .int .i64 0] 36))
        have HOW := Lib.hid (HXN.out.later (Below.refl _ _))
        go_wp2_with (at_builtin; refine wpList_append_tkrow rfl _ _ rfl w6.heap.size (.slice (some ⟨w6.heap.size, 0, none⟩) 1 1) [mkK 3] rfl (OwnK.one HXN.out (Nat.le_refl _)) bB oB cb b rfl HS4.out.rb HLB.out HBL.out.size ?_; intro v' w5 ho hb; have HO := Lib.hid ho; have HS5 := Lib.hid (HS.out.later (HBL.out.trans (hb _ (Nat.le_refl _)))); obtain ⟨a5, c5, rfl, hr5⟩ := ho.row; have HR5 := Lib.hid hr5; clear ho hb hr5 HXN HS4 HBL HOW HO)
        refine (rdeep_any ([mkK 3] ++ b) a5 c5 (Nat.le_of_lt (by have := HLB.out; rw [List.length_append]; exact this)) w5 HR5.out).mono ?_; intro e6 w6 hp
        obtain ⟨dp, db, rfl, hb6, hd0, -⟩ := hp
        have HS6 := Lib.hid (HS5.out.later hb6)
        have HD0 : Hid (db = false → ∀ i, cntO b 1 i ≤ 64) := fun h => cnt_all (hd0 h)
        clear hb6 hd0 HR5 HS5 HS
        cases db with
        | true =>
          go_wp2
          go_ret
          exact ⟨rfl, HS6.out.bel⟩
        | false =>
          have HCB := Lib.hid (HD0.out rfl)
          clear HD0 HLA HLB
          go_upto_region 9 with (fail)
          have hfa := HMA.out.few
          have hfb := HMB.out.few
          have PA := Lib.hid (HMA.out.parse _ ca w6 HS6.out.ra)
          go_wp2_with fail
          refine PA.out.mono ?_; intro e7 w7 hq
          obtain ⟨A1, n1, c1, aa1, na1, ka1, er1, p1, rfl, hb7, hx1⟩ := PParse.any hq (fun er p h => by have := parse_err h; omega)
          have HS7 := Lib.hid (HS6.out.later hb7)
          have hbb := (Below.refl w7.heap.size w7).alloc (Nat.le_refl _) (.cells #[.slice A1 n1 c1] 27)
          have HS8 := Lib.hid (HS7.out.later hbb)
          have HB1 := Lib.hid (Blk.new w7 #[.slice A1 n1 c1] 27)
          have HX1 : Hid ((er1 = 0 ∧ ∃ k t, parseP a = .ok k t ∧ n1 = t.nodes.length ∧ n1 ≤ c1 ∧ NRow (w7.alloc (.cells #[.slice A1 n1 c1] 27)) A1 t.nodes) ∨ er1 ≠ 0) := hx1.elim (fun ⟨h0, k, t, h1, h2, h3, h4⟩ => .inl ⟨h0, k, t, h1, h2, h3, h4.later hbb⟩) .inr
          clear hq hb7 hx1 hbb HS6 HS7 PA
          go_upto_region 10 with (fail)
          generalize w7.alloc (.cells #[.slice A1 n1 c1] 27) = w8 at *
          generalize w7.heap.size = b1 at *
          have PB := Lib.hid (HMB.out.parse _ cb w8 HS8.out.rb)
          go_wp2_with fail
          refine PB.out.mono ?_; intro e9 w9 hq
          obtain ⟨A2, n2, c2, aa2, na2, ka2, er2, p2, rfl, hb9, hx2⟩ := PParse.any hq (fun er p h => by have := parse_err h; omega)
          have HS9 := Lib.hid (HS8.out.later hb9)
          have hbb := (Below.refl w9.heap.size w9).alloc (Nat.le_refl _) (.cells #[.slice A2 n2 c2] 27)
          have HS10 := Lib.hid (HS9.out.later hbb)
          have HB12 := Lib.hid ((HB1.out.later hb9).later hbb)
          have HB2 := Lib.hid (Blk.new w9 #[.slice A2 n2 c2] 27)
          have HX12 : Hid ((er1 = 0 ∧ ∃ k t, parseP a = .ok k t ∧ n1 = t.nodes.length ∧ n1 ≤ c1 ∧ NRow (w9.alloc (.cells #[.slice A2 n2 c2] 27)) A1 t.nodes) ∨ er1 ≠ 0) := HX1.out.elim (fun ⟨h0, k, t, h1, h2, h3, h4⟩ => .inl ⟨h0, k, t, h1, h2, h3, (h4.later hb9).later hbb⟩) .inr
          have HX2 : Hid ((er2 = 0 ∧ ∃ k t, parseP b = .ok k t ∧ n2 = t.nodes.length ∧ n2 ≤ c2 ∧ NRow (w9.alloc (.cells #[.slice A2 n2 c2] 27)) A2 t.nodes) ∨ er2 ≠ 0) := hx2.elim (fun ⟨h0, k, t, h1, h2, h3, h4⟩ => .inl ⟨h0, k, t, h1, h2, h3, h4.later hbb⟩) .inr
          clear hq hb9 hx2 hbb HS8 HS9 PB HB1 HX1
          go_upto_region 11 with (fail)
          generalize w9.alloc (.cells #[.slice A2 n2 c2] 27) = w10 at *
          generalize w9.heap.size = b2 at *
          have d1 := HB12.out.cell 0
          have d2 := HB2.out.cell 0
          simp at d1 d2
          have HS6 := HS10
          by_cases h1 : er1 = 0
          · have e1 : (er1 != 0) = false := by rw [h1]; rfl
            obtain ⟨-, k1, t1, hp1, hn1, hc1, hr1⟩ := HX12.out.resolve_right (fun h => h h1)
            have hfl1 : n1 ≤ 4096 := by have := (parse_form HMA.out.ok hp1).2; omega
            have HP1 := Lib.hid hp1
            have HN1 := Lib.hid hn1
            have HC1 := Lib.hid hc1
            have HR1 := Lib.hid hr1
            clear hp1 hn1 hc1 hr1
            by_cases h2 : er2 = 0
            · have e2 : (er2 != 0) = false := by rw [h2]; rfl
              obtain ⟨-, k2, t2, hp2, hn2, hc2, hr2⟩ := HX2.out.resolve_right (fun h => h h2)
              have hfl2 : n2 ≤ 4096 := by have := (parse_form HMB.out.ok hp2).2; omega
              have HP2 := Lib.hid hp2
              have HN2 := Lib.hid hn2
              have HC2 := Lib.hid hc2
              have HR2 := Lib.hid hr2
              clear hp2 hn2 hc2 hr2
              have hw1 := wrap_of (by omega : (n1 : Int) + (n2 : Int) ≤ 1073741824) (by omega : (0 : Int) ≤ (n1 : Int) + (n2 : Int))
              by_cases hsum : 4096 ≤ n1 + n2
              · have hz : (4096 : Int) ≤ (n1 : Int) + (n2 : Int) := by omega
                clear h1 h2
                go_wp2
                go_ret
                exact ⟨rfl, HS6.out.bel⟩
              · have hz : ¬ (4096 : Int) ≤ (n1 : Int) + (n2 : Int) := by omega
                clear h1 h2
                go_upto_region 13 with (fail)
                obtain ⟨u, hd1, rfl⟩ := parse_done HMA.out.ends HMA.out.ok HP1.out
                obtain ⟨v, hd2, rfl⟩ := parse_done HMB.out.ends HMB.out.ok HP2.out
                have hn1' : n1 = u.nodes.length := HN1.out
                have hn2' : n2 = v.nodes.length := HN2.out
                subst hn1' hn2'
                have HD1 := Lib.hid hd1
                have HD2 := Lib.hid hd2
                have HFM : Hid (Form u.nodes ∧ Form v.nodes) := ⟨(parse_form HMA.out.ok HP1.out).1, (parse_form HMB.out.ok HP2.out).1⟩
                have HTXA : Hid (TxtOf 100 u ∧ TxtOf 100 v) := ⟨parse_txt (t := u.next) HMA.out.txt HP1.out, parse_txt (t := v.next) HMB.out.txt HP2.out⟩
                have HSUM : Hid (u.count + v.count < 4096) := by unfold Hid; have := hd1.len; have := hd2.len; omega
                have HBD1 : Hid (Bd b1 A1 u.nodes c1 w10) := ⟨HB12.out, HR1.out, HC1.out⟩
                have HBD2 : Hid (Bd b2 A2 v.nodes c2 w10) := ⟨HB2.out, HR2.out, HC2.out⟩
                clear hd1 hd2 HP1 HP2 HN1 HN2 HC1 HC2 HR1 HR2 HX12 HX2 HB12 HB2 d1 d2 HS10 hw1 hsum hz e1 e2
                generalize hul : u.nodes.length = nu at *
                generalize hvl : v.nodes.length = nv1 at *
                have HUL := Lib.hid hul
                have HVL := Lib.hid hvl
                clear hul hvl
                have hbo := (Below.refl w10.heap.size w10).alloc (Nat.le_refl _) (.cells #[.int .i64 3, .int .i64 0, .int .u64 0, .int .u64 0, .int .u64 0, .int .u64 0, .string ⟨#[]⟩, .int .i64 0, .int .i64 0, .int .i64 10, .int .i64 0, .int .u64 0, .int .u64 0, .int .u64 0, .int .u64 0, .string ⟨#[]⟩, .int .i64 0, .int .i64 0] 36)
                have HOP := Lib.hid (two_jn (Blk.new w10 #[.int .i64 3, .int .i64 0, .int .u64 0, .int .u64 0, .int .u64 0, .int .u64 0, .string ⟨#[]⟩, .int .i64 0, .int .i64 0, .int .i64 10, .int .i64 0, .int .u64 0, .int .u64 0, .int .u64 0, .int .u64 0, .string ⟨#[]⟩, .int .i64 0, .int .i64 0] 36))
                have HSA := Lib.hid (HS6.out.later hbo)
                have HBA1 := Lib.hid (HBD1.out.later hbo)
                have HBA2 := Lib.hid (HBD2.out.later hbo)
                clear hbo HS6 HBD1 HBD2
                go_upto_region 14 with (fail)
                generalize w10.alloc (.cells #[.int .i64 3, .int .i64 0, .int .u64 0, .int .u64 0, .int .u64 0, .int .u64 0, .string ⟨#[]⟩, .int .i64 0, .int .i64 0, .int .i64 10, .int .i64 0, .int .u64 0, .int .u64 0, .int .u64 0, .int .u64 0, .string ⟨#[]⟩, .int .i64 0, .int .i64 0] 36) = w11 at *
                generalize w10.heap.size = ob at *
                have hbo := (Below.refl w11.heap.size w11).alloc (Nat.le_refl _) (.cells #[.int .i64 4, .int .i64 0, .int .u64 0, .int .u64 0, .int .u64 0, .int .u64 0, .string ⟨#[]⟩, .int .i64 0, .int .i64 0, .int .i64 10, .int .i64 0, .int .u64 0, .int .u64 0, .int .u64 0, .int .u64 0, .string ⟨#[]⟩, .int .i64 0, .int .i64 0] 36)
                have HG : Hid (Pp5 w (some ⟨bA, oA, none⟩) (some ⟨bB, oB, none⟩) a b b1 b2 A1 A2 u.nodes v.nodes c1 c2 ob w11.heap.size (w11.alloc (.cells #[.int .i64 4, .int .i64 0, .int .u64 0, .int .u64 0, .int .u64 0, .int .u64 0, .string ⟨#[]⟩, .int .i64 0, .int .i64 0, .int .i64 10, .int .i64 0, .int .u64 0, .int .u64 0, .int .u64 0, .int .u64 0, .string ⟨#[]⟩, .int .i64 0, .int .i64 0] 36))) :=
                  ⟨HSA.out.later hbo, HBA1.out.later hbo, HBA2.out.later hbo, HOP.out.later hbo, two_jn (Blk.new _ _ _)⟩
                clear hbo HSA HBA1 HBA2 HOP
                go_upto_region 15 with (fail)
                generalize w11.alloc (.cells #[.int .i64 4, .int .i64 0, .int .u64 0, .int .u64 0, .int .u64 0, .int .u64 0, .string ⟨#[]⟩, .int .i64 0, .int .i64 0, .int .i64 10, .int .i64 0, .int .u64 0, .int .u64 0, .int .u64 0, .int .u64 0, .string ⟨#[]⟩, .int .i64 0, .int .i64 0] 36) = w12 at *
                generalize w11.heap.size = sb at *
                have JO := Lib.hid (show Calls Try.prog 12 #[.slice (some ⟨ob, 0, none⟩) 2 2, .int .i64 0, .slice (some ⟨bA, oA, none⟩) a.length ca] w12 (JnPost w12 (joinL opnP 0 a)) from joined_any opnP a _ _ 2 ca 0 (by decide) HMA.out.pos (by decide) (by omega) (by decide) w12 HG.out.op.row HG.out.s.ra)
                go_wp2_with fail
                refine JO.out.mono ?_; intro e13 w13 hp
                obtain ⟨g1, e1, L1, rfl, he1, hj1, hs1, hb13⟩ := hp
                have HG13 := Lib.hid (HG.out.later hb13)
                have HL1 : Hid (L1.length = a.length + 1) := by unfold Hid; rw [hs1.len, join_opn]; rfl
                have JO2 := Lib.hid (show Calls Try.prog 12 #[.slice (some ⟨g1, 0, none⟩) L1.length e1, .int .i64 0, .slice (some ⟨sb, 0, none⟩) 2 2] w13 (JnPost w13 (joinL L1 0 shtP)) from joined_any L1 shtP _ _ e1 2 0 (by rw [HL1.out]; omega) (by decide) (by rw [HL1.out]; omega) (by decide) he1 w13 hj1.row HG13.out.sh.row)
                have HS1 := Lib.hid hs1
                clear he1 hj1 hs1 hb13 HG JO
                generalize L1.length = l1 at *
                go_wp2_with fail
                refine JO2.out.mono ?_; intro e14 w14 hp
                obtain ⟨gx, ex, X, rfl, hex, hjx, hsx, hb14⟩ := hp
                have HG14 := Lib.hid (HG13.out.later hb14)
                have HJX := Lib.hid hjx
                have HEX := Lib.hid hex
                have HSX := Lib.hid (br_sim HMA.out.pos HS1.out hsx)
                clear hex hjx hsx hb14 HG13 JO2 HS1
                go_upto_region 16 with (fail)
                have JO := Lib.hid (show Calls Try.prog 12 #[.slice (some ⟨ob, 0, none⟩) 2 2, .int .i64 0, .slice (some ⟨bB, oB, none⟩) b.length cb] w14 (JnPost w14 (joinL opnP 0 b)) from joined_any opnP b _ _ 2 cb 0 (by decide) HMB.out.pos (by decide) (by omega) (by decide) w14 HG14.out.op.row HG14.out.s.rb)
                go_wp2_with fail
                refine JO.out.mono ?_; intro e15 w15 hp
                obtain ⟨g2, e2, L2, rfl, he2, hj2, hs2, hb15⟩ := hp
                have HG15 := Lib.hid (HG14.out.later hb15)
                have HJX2 := Lib.hid (HJX.out.later hb15)
                have HL2 : Hid (L2.length = b.length + 1) := by unfold Hid; rw [hs2.len, join_opn]; rfl
                have JO2 := Lib.hid (show Calls Try.prog 12 #[.slice (some ⟨g2, 0, none⟩) L2.length e2, .int .i64 0, .slice (some ⟨sb, 0, none⟩) 2 2] w15 (JnPost w15 (joinL L2 0 shtP)) from joined_any L2 shtP _ _ e2 2 0 (by rw [HL2.out]; omega) (by decide) (by rw [HL2.out]; omega) (by decide) he2 w15 hj2.row HG15.out.sh.row)
                have HS2 := Lib.hid hs2
                clear he2 hj2 hs2 hb15 HG14 JO HJX
                generalize L2.length = l2 at *
                go_wp2_with fail
                refine JO2.out.mono ?_; intro e16 w16 hp
                obtain ⟨gy, ey, Y, rfl, hey, hjy, hsy, hb16⟩ := hp
                have HG16 := Lib.hid (HG15.out.later hb16)
                have HJX := Lib.hid (HJX2.out.later hb16)
                have HJY := Lib.hid hjy
                have HEY := Lib.hid hey
                have HSY := Lib.hid (br_sim HMB.out.pos HS2.out hsy)
                clear hey hjy hsy hb16 HG15 JO2 HS2 HJX2 HL1 HL2
                have HXL : Hid (X.length = a.length + 2) := by unfold Hid; rw [HSX.out.len]; exact inBr_len HMA.out.pos
                have HYL : Hid (Y.length = b.length + 2) := by unfold Hid; rw [HSY.out.len]; exact inBr_len HMB.out.pos
                obtain ⟨lx, hlx⟩ : ∃ lx, X.length = lx := ⟨_, rfl⟩
                obtain ⟨ly, hly⟩ : ∃ ly, Y.length = ly := ⟨_, rfl⟩
                have HLX2 := Lib.hid hlx
                have HLY2 := Lib.hid hly
                rw [hlx, hly]
                rw [hlx] at HEX
                rw [hly] at HEY
                clear hlx hly
                go_upto_region 17 with (fail)
                have PP : Hid (Calls Try.prog 9 #[.slice (some ⟨gx, 0, none⟩) lx ex] w16 (PParse w16 (parseP X))) := by
                  have q := parse_any (l := X) (fun p => Nat.le_trans (HSX.out.txt (br_txt HMA.out.pos HMA.out.txt) p) (by decide)) (HSX.out.ends (br_ends HMA.out.ends)) (by rw [HXL.out]; omega) (some ⟨gx, 0, none⟩) ex w16 HJX.out.row
                  rw [HLX2.out] at q; exact q
                obtain ⟨tt, hpp, hnn⟩ := parse_br HMA.out.ends HD1.out HCA.out HSX.out.like
                rw [hpp] at PP
                have HNN := Lib.hid hnn
                clear hpp hnn
                go_wp2_with fail
                refine PP.out.mono ?_; intro e20 w17 hq
                obtain ⟨nv, av, rfl, hn, ha, hb20⟩ := hq
                obtain ⟨AX, cX, hcX, hvX, hrX⟩ := hn.isD
                obtain rfl : nv = .slice AX tt.nodes.length cX := by simpa using hvX
                obtain ⟨aaX, kaX, rfl, -⟩ := ha.row
                rw [HNN.out] at hcX hrX ⊢
                have hbb := (Below.refl w17.heap.size w17).alloc (Nat.le_refl _) (.cells #[.slice AX u.nodes.length cX] 27)
                have hbc := hb20.trans (hbb.mono hb20.size)
                have HBOX : Hid (Bd w17.heap.size AX u.nodes cX (w17.alloc (.cells #[.slice AX u.nodes.length cX] 27))) := ⟨Blk.new _ _ _, hrX.later hbb, hcX⟩
                clear hn ha hb20 hcX hvX hrX PP HNN
                generalize tt.ats.length = tl at *
                have HG18 := Lib.hid (HG16.out.later hbc)
                have HJX18 := Lib.hid (HJX.out.later hbc)
                have HJY18 := Lib.hid (HJY.out.later hbc)
                clear hbb hbc HG16 HJX HJY
                go_upto_region 18 with (fail)
                generalize w17.alloc (.cells #[.slice AX u.nodes.length cX] 27) = w18 at *
                generalize w17.heap.size = bi at *
                have HBI := HBOX
                clear HBOX
                obtain ⟨P5, hP5⟩ : ∃ P5, pairL 5 u.nodes v.nodes = P5 := ⟨_, rfl⟩
                obtain ⟨P4, hP4⟩ : ∃ P4, pairL 4 u.nodes v.nodes = P4 := ⟨_, rfl⟩
                obtain ⟨W9, hW9⟩ : ∃ W9, wrapL 9 0 0 u.nodes = W9 := ⟨_, rfl⟩
                have HP5 := Lib.hid hP5
                have HP4 := Lib.hid hP4
                have HW9 := Lib.hid hW9
                clear hP5 hP4 hW9
                have JO := Lib.hid (show Calls Try.prog 12 #[.slice (some ⟨bA, oA, none⟩) a.length ca, .int .i64 5, .slice (some ⟨gy, 0, none⟩) ly ey] w18 (JnPost w18 (joinL a 5 Y)) from by
                  have q := joined_any a Y _ (some ⟨gy, 0, none⟩) ca ey 5 HMA.out.pos (by rw [HYL.out]; omega) (by omega) (by rw [HYL.out]; omega) hca w18 HG18.out.s.ra HJY18.out.row
                  rw [HLY2.out] at q; exact q)
                go_wp2_with fail
                refine JO.out.mono ?_; intro e19 w19 hp
                obtain ⟨go, eo, O, rfl, heo, hjo, hso, hb19⟩ := hp
                have HG19 := Lib.hid (HG18.out.later hb19)
                have HJX19 := Lib.hid (HJX18.out.later hb19)
                have HJY19 := Lib.hid (HJY18.out.later hb19)
                have HBI19 := Lib.hid (HBI.out.later hb19)
                have HSO := Lib.hid (or_sim HSY.out hso)
                have HJO := Lib.hid hjo
                have PP : Hid (Calls Try.prog 9 #[.slice (some ⟨go, 0, none⟩) O.length eo] w19 (PParse w19 (parseP O))) :=
                  parse_any (l := O) (fun p => Nat.le_trans (HSO.out.txt (or_txt HMB.out.pos HMA.out.txt HMB.out.txt) p) (by decide)) (HSO.out.ends (or_ends HMA.out.ends HMB.out.ends)) (by rw [HSO.out.len]; unfold orOf; rw [List.length_append, List.length_cons, inBr_len HMB.out.pos, List.length_dropLast]; omega) (some ⟨go, 0, none⟩) eo w19 HJO.out.row
                clear heo hjo hso hb19 HG18 HJX18 HJY18 HBI JO
                obtain ⟨tt2, ii2, hpp, hnn⟩ := parse_orOf HMA.out.ends HD1.out HCA.out HMB.out.ends HD2.out HCB.out HSUM.out HSO.out.like
                rw [HP5.out] at hnn
                rw [hpp] at PP
                clear hpp
                generalize O.length = lo at *
                have HNN := Lib.hid hnn
                clear hnn
                go_wp2_with fail
                refine PP.out.mono ?_; intro e20 w20 hq
                obtain ⟨nv, av, rfl, hn, ha, hb20⟩ := hq
                obtain ⟨AO, cO, hcX, hvX, hrX⟩ := hn.isD
                obtain rfl : nv = .slice AO tt2.nodes.length cO := by simpa using hvX
                obtain ⟨aaX, kaX, rfl, -⟩ := ha.row
                rw [HNN.out] at hcX hrX ⊢
                have hbb := (Below.refl w20.heap.size w20).alloc (Nat.le_refl _) (.cells #[.slice AO P5.length cO] 27)
                have hbc := hb20.trans (hbb.mono hb20.size)
                have HBOX : Hid (Bd w20.heap.size AO P5 cO (w20.alloc (.cells #[.slice AO P5.length cO] 27))) := ⟨Blk.new _ _ _, hrX.later hbb, hcX⟩
                clear hn ha hb20 hcX hvX hrX PP HNN
                generalize tt2.ats.length = tlO at *
                have HG21 := Lib.hid (HG19.out.later hbc)
                have HJX21 := Lib.hid (HJX19.out.later hbc)
                have HJY21 := Lib.hid (HJY19.out.later hbc)
                have HBI21 := Lib.hid (HBI19.out.later hbc)
                clear hbb hbc HG19 HJX19 HJY19 HBI19 HSO HJO
                go_upto_region 19 with (fail)
                generalize w20.alloc (.cells #[.slice AO P5.length cO] 27) = w21 at *
                generalize w20.heap.size = bo at *
                have HBO := HBOX
                clear HBOX
                have JO := Lib.hid (show Calls Try.prog 12 #[.slice (some ⟨gx, 0, none⟩) lx ex, .int .i64 0, .slice (some ⟨gy, 0, none⟩) ly ey] w21 (JnPost w21 (joinL X 0 Y)) from by
                  have q := joined_any X Y (some ⟨gx, 0, none⟩) (some ⟨gy, 0, none⟩) ex ey 0 (by rw [HXL.out]; omega) (by rw [HYL.out]; omega) (by rw [HXL.out]; omega) (by rw [HYL.out]; omega) (by rw [HLX2.out]; exact HEX.out) w21 HJX21.out.row HJY21.out.row
                  rw [HLX2.out, HLY2.out] at q; exact q)
                go_wp2_with fail
                refine JO.out.mono ?_; intro e22 w22 hp
                obtain ⟨gr, er, R, rfl, her, hjr, hsr, hb22⟩ := hp
                have HG22 := Lib.hid (HG21.out.later hb22)
                have HJX22 := Lib.hid (HJX21.out.later hb22)
                have HBI22 := Lib.hid (HBI21.out.later hb22)
                have HBO22 := Lib.hid (HBO.out.later hb22)
                have HSR := Lib.hid (row_sim HSX.out HSY.out hsr)
                have HJR := Lib.hid hjr
                have PP : Hid (Calls Try.prog 9 #[.slice (some ⟨gr, 0, none⟩) R.length er] w22 (PParse w22 (parseP R))) :=
                  parse_any (l := R) (fun p => Nat.le_trans (HSR.out.txt (row_txt HMA.out.pos HMB.out.pos HMA.out.txt HMB.out.txt) p) (by decide)) (HSR.out.ends (row_ends HMA.out.ends HMB.out.ends)) (by rw [HSR.out.len]; unfold rowOf; rw [List.length_append, List.length_dropLast, inBr_len HMA.out.pos, inBr_len HMB.out.pos]; omega) (some ⟨gr, 0, none⟩) er w22 HJR.out.row
                clear her hjr hsr hb22 HG21 HJX21 HJY21 HBI21 HBO JO
                obtain ⟨tt3, ii3, hpp, hnn⟩ := parse_rowOf HMA.out.ends HD1.out HCA.out HMB.out.ends HD2.out HCB.out HSUM.out HSR.out.like
                rw [HP4.out] at hnn
                rw [hpp] at PP
                clear hpp
                generalize R.length = lr at *
                have HNN := Lib.hid hnn
                clear hnn
                go_wp2_with fail
                refine PP.out.mono ?_; intro e20 w23 hq
                obtain ⟨nv, av, rfl, hn, ha, hb20⟩ := hq
                obtain ⟨AR, cR, hcX, hvX, hrX⟩ := hn.isD
                obtain rfl : nv = .slice AR tt3.nodes.length cR := by simpa using hvX
                obtain ⟨aaX, kaX, rfl, -⟩ := ha.row
                rw [HNN.out] at hcX hrX ⊢
                have hbb := (Below.refl w23.heap.size w23).alloc (Nat.le_refl _) (.cells #[.slice AR P4.length cR] 27)
                have hbc := hb20.trans (hbb.mono hb20.size)
                have HBOX : Hid (Bd w23.heap.size AR P4 cR (w23.alloc (.cells #[.slice AR P4.length cR] 27))) := ⟨Blk.new _ _ _, hrX.later hbb, hcX⟩
                clear hn ha hb20 hcX hvX hrX PP HNN
                generalize tt3.ats.length = tlR at *
                have HG24 := Lib.hid (HG22.out.later hbc)
                have HJX24 := Lib.hid (HJX22.out.later hbc)
                have HBI24 := Lib.hid (HBI22.out.later hbc)
                have HBO24 := Lib.hid (HBO22.out.later hbc)
                clear hbb hbc HG22 HJX22 HBI22 HBO22 HSR HJR
                go_upto_region 20 with (fail)
                generalize w23.alloc (.cells #[.slice AR P4.length cR] 27) = w24 at *
                generalize w23.heap.size = br at *
                have HBR := HBOX
                clear HBOX
                have hbw := (Below.refl w24.heap.size w24).alloc (Nat.le_refl _) (.cells #[.int .i64 9, .int .i64 0, .int .u64 0, .int .u64 0, .int .u64 0, .int .u64 0, .string ⟨#[]⟩, .int .i64 0, .int .i64 0, .int .i64 10, .int .i64 0, .int .u64 0, .int .u64 0, .int .u64 0, .int .u64 0, .string ⟨#[]⟩, .int .i64 0, .int .i64 0] 36)
                have HJW := Lib.hid (two_jn (Blk.new w24 #[.int .i64 9, .int .i64 0, .int .u64 0, .int .u64 0, .int .u64 0, .int .u64 0, .string ⟨#[]⟩, .int .i64 0, .int .i64 0, .int .i64 10, .int .i64 0, .int .u64 0, .int .u64 0, .int .u64 0, .int .u64 0, .string ⟨#[]⟩, .int .i64 0, .int .i64 0] 36))
                have HG25 := Lib.hid (HG24.out.later hbw)
                have HJX25 := Lib.hid (HJX24.out.later hbw)
                have HBI25 := Lib.hid (HBI24.out.later hbw)
                have HBO25 := Lib.hid (HBO24.out.later hbw)
                have HBR25 := Lib.hid (HBR.out.later hbw)
                clear hbw HG24 HJX24 HBI24 HBO24 HBR
                go_wp2_with fail
                generalize w24.alloc (.cells #[.int .i64 9, .int .i64 0, .int .u64 0, .int .u64 0, .int .u64 0, .int .u64 0, .string ⟨#[]⟩, .int .i64 0, .int .i64 0, .int .i64 10, .int .i64 0, .int .u64 0, .int .u64 0, .int .u64 0, .int .u64 0, .string ⟨#[]⟩, .int .i64 0, .int .i64 0] 36) = w25 at *
                generalize w24.heap.size = wb at *
                have JO := Lib.hid (show Calls Try.prog 12 #[.slice (some ⟨wb, 0, none⟩) 2 2, .int .i64 0, .slice (some ⟨gx, 0, none⟩) lx ex] w25 (JnPost w25 (joinL widP 0 X)) from by
                  have q := joined_any widP X (some ⟨wb, 0, none⟩) (some ⟨gx, 0, none⟩) 2 ex 0 (by decide) (by rw [HXL.out]; omega) (by decide) (by rw [HXL.out]; omega) (by decide) w25 HJW.out.row HJX25.out.row
                  rw [HLX2.out] at q; exact q)
                refine JO.out.mono ?_; intro e26 w26 hp
                obtain ⟨gw, ew, WL, rfl, hew, hjw, hsw, hb26⟩ := hp
                have HG26 := Lib.hid (HG25.out.later hb26)
                have HBI26 := Lib.hid (HBI25.out.later hb26)
                have HBO26 := Lib.hid (HBO25.out.later hb26)
                have HBR26 := Lib.hid (HBR25.out.later hb26)
                have HSW := Lib.hid (wide_sim HSX.out hsw)
                have HJW2 := Lib.hid hjw
                have PP : Hid (Calls Try.prog 9 #[.slice (some ⟨gw, 0, none⟩) WL.length ew] w26 (PParse w26 (parseP WL))) :=
                  parse_any (l := WL) (fun p => Nat.le_trans (HSW.out.txt (wide_txt HMA.out.pos HMA.out.txt) p) (by decide)) (HSW.out.ends (wide_ends HMA.out.ends)) (by rw [HSW.out.len]; unfold inWide; rw [List.length_cons, inBr_len HMA.out.pos]; omega) (some ⟨gw, 0, none⟩) ew w26 HJW2.out.row
                clear hew hjw hsw hb26 HG25 HJX25 HBI25 HBO25 HBR25 JO HJW
                obtain ⟨tt4, ii4, hpp, hnn⟩ := parse_wide HMA.out.ends HD1.out HCA.out (by have := HSUM.out; omega) HSW.out.like
                rw [HW9.out] at hnn
                rw [hpp] at PP
                clear hpp
                generalize WL.length = lw at *
                have HNN := Lib.hid hnn
                clear hnn
                go_wp2_with fail
                refine PP.out.mono ?_; intro e20 w27 hq
                obtain ⟨nv, av, rfl, hn, ha, hb20⟩ := hq
                obtain ⟨AW, cW, hcX, hvX, hrX⟩ := hn.isD
                obtain rfl : nv = .slice AW tt4.nodes.length cW := by simpa using hvX
                obtain ⟨aaX, kaX, rfl, -⟩ := ha.row
                rw [HNN.out] at hcX hrX ⊢
                have hbb := (Below.refl w27.heap.size w27).alloc (Nat.le_refl _) (.cells #[.slice AW W9.length cW] 27)
                have hbc := hb20.trans (hbb.mono hb20.size)
                have HBOX : Hid (Bd w27.heap.size AW W9 cW (w27.alloc (.cells #[.slice AW W9.length cW] 27))) := ⟨Blk.new _ _ _, hrX.later hbb, hcX⟩
                clear hn ha hb20 hcX hvX hrX PP HNN
                generalize tt4.ats.length = tlW at *
                have HG28 := Lib.hid (HG26.out.later hbc)
                have HBI28 := Lib.hid (HBI26.out.later hbc)
                have HBO28 := Lib.hid (HBO26.out.later hbc)
                have HBR28 := Lib.hid (HBR26.out.later hbc)
                clear hbb hbc HG26 HBI26 HBO26 HBR26 HSW HJW2
                go_upto_region 21 with (fail)
                generalize w27.alloc (.cells #[.slice AW W9.length cW] 27) = w28 at *
                generalize w27.heap.size = bw at *
                have HBW := HBOX
                clear HBOX
                have HZ : Hid (PpZ w (some ⟨bA, oA, none⟩) (some ⟨bB, oB, none⟩) a b b1 b2 A1 A2 u.nodes v.nodes c1 c2 ob sb bi bo br bw AX AO AR AW P5 P4 W9 cX cO cR cW w28) := ⟨HG28.out, HBI28.out, HBO28.out, HBR28.out, HBW.out⟩
                clear HG28 HBI28 HBO28 HBR28 HBW HSX HSY HXL HYL HEX HEY HLX2 HLY2 HD1 HD2 HCA HCB HMA HMB HSUM
                go_upto_region 23 with (fail)
                have HTu : Hid (Txt u.nodes ∧ Txt v.nodes) := ⟨fun n hn => Nat.le_trans (HTXA.out.1 n hn) (by decide), fun n hn => Nat.le_trans (HTXA.out.2 n hn) (by decide)⟩
                have HL5 : Hid (P5.length ≤ 1073741824) := by unfold Hid; rw [← HP5.out]; unfold pairL; have := HUL.out; have := HVL.out; simp; omega
                have HL4 : Hid (P4.length ≤ 1073741824) := by unfold Hid; rw [← HP4.out]; unfold pairL; have := HUL.out; have := HVL.out; simp; omega
                have HL9 : Hid (W9.length ≤ 1073741824) := by unfold Hid; rw [← HW9.out]; unfold wrapL; have := HUL.out; simp; omega
                have F1 : Hid (∀ w', PpZ w (some ⟨bA, oA, none⟩) (some ⟨bB, oB, none⟩) a b b1 b2 A1 A2 u.nodes v.nodes c1 c2 ob sb bi bo br bw AX AO AR AW P5 P4 W9 cX cO cR cW w' → Calls Try.prog 13 #[.agg #[.slice AX u.nodes.length cX], .agg #[.slice A1 u.nodes.length c1]] w' (Ans w' (.bool true))) := fun w' h => by
                  have q := h.i.isD.rsame h.g.d.isD (by have := HUL.out; omega) (by have := HUL.out; omega)
                  rwa [decide_eq_true (rfl : u.nodes = u.nodes)] at q
                have F2 : Hid (∀ w', PpZ w (some ⟨bA, oA, none⟩) (some ⟨bB, oB, none⟩) a b b1 b2 A1 A2 u.nodes v.nodes c1 c2 ob sb bi bo br bw AX AO AR AW P5 P4 W9 cX cO cR cW w' → Calls Try.prog 14 #[.int .i64 5, .agg #[.slice A1 u.nodes.length c1], .agg #[.slice A2 v.nodes.length c2]] w' (DPost w' P5)) := fun w' h => by
                  have q := rpairs_any 5 u.nodes v.nodes A1 A2 c1 c2 HFM.out.1.1 HFM.out.2.1 (by have := HUL.out; omega) (by have := HVL.out; omega) (fun n hn => ⟨HFM.out.1.mvOk HTu.out.1 (by have := HUL.out; omega) (by omega) (by omega) n hn, HFM.out.1.kindsP n hn⟩) (fun n hn => ⟨HFM.out.2.mvOk HTu.out.2 (by have := HVL.out; omega) (by omega) (by have := HUL.out; omega) n hn, HFM.out.2.kindsP n hn⟩) w' h.g.d.row h.g.c.row
                  rwa [HP5.out] at q
                have F3 : Hid (∀ x w', PpZ w (some ⟨bA, oA, none⟩) (some ⟨bB, oB, none⟩) a b b1 b2 A1 A2 u.nodes v.nodes c1 c2 ob sb bi bo br bw AX AO AR AW P5 P4 W9 cX cO cR cW w' → IsD P5 x w' → Calls Try.prog 13 #[.agg #[.slice AO P5.length cO], x] w' (Ans w' (.bool true))) := fun x w' h k => by
                  have q := h.o.isD.rsame k HL5.out HL5.out
                  rwa [decide_eq_true (rfl : P5 = P5)] at q
                have F4 : Hid (∀ w', PpZ w (some ⟨bA, oA, none⟩) (some ⟨bB, oB, none⟩) a b b1 b2 A1 A2 u.nodes v.nodes c1 c2 ob sb bi bo br bw AX AO AR AW P5 P4 W9 cX cO cR cW w' → Calls Try.prog 14 #[.int .i64 4, .agg #[.slice A1 u.nodes.length c1], .agg #[.slice A2 v.nodes.length c2]] w' (DPost w' P4)) := fun w' h => by
                  have q := rpairs_any 4 u.nodes v.nodes A1 A2 c1 c2 HFM.out.1.1 HFM.out.2.1 (by have := HUL.out; omega) (by have := HVL.out; omega) (fun n hn => ⟨HFM.out.1.mvOk HTu.out.1 (by have := HUL.out; omega) (by omega) (by omega) n hn, HFM.out.1.kindsP n hn⟩) (fun n hn => ⟨HFM.out.2.mvOk HTu.out.2 (by have := HVL.out; omega) (by omega) (by have := HUL.out; omega) n hn, HFM.out.2.kindsP n hn⟩) w' h.g.d.row h.g.c.row
                  rwa [HP4.out] at q
                have F5 : Hid (∀ x w', PpZ w (some ⟨bA, oA, none⟩) (some ⟨bB, oB, none⟩) a b b1 b2 A1 A2 u.nodes v.nodes c1 c2 ob sb bi bo br bw AX AO AR AW P5 P4 W9 cX cO cR cW w' → IsD P4 x w' → Calls Try.prog 13 #[.agg #[.slice AR P4.length cR], x] w' (Ans w' (.bool true))) := fun x w' h k => by
                  have q := h.r.isD.rsame k HL4.out HL4.out
                  rwa [decide_eq_true (rfl : P4 = P4)] at q
                have F6 : Hid (∀ w', PpZ w (some ⟨bA, oA, none⟩) (some ⟨bB, oB, none⟩) a b b1 b2 A1 A2 u.nodes v.nodes c1 c2 ob sb bi bo br bw AX AO AR AW P5 P4 W9 cX cO cR cW w' → Calls Try.prog 15 #[.int .i64 9, .int .i64 0, .int .i64 0, .agg #[.slice A1 u.nodes.length c1]] w' (DPost w' W9)) := fun w' h => by
                  have q := rwrap_any 9 0 0 u.nodes A1 c1 HFM.out.1.1 (by have := HUL.out; omega) (fun n hn => ⟨HFM.out.1.mvOk HTu.out.1 (by have := HUL.out; omega) (by omega) (by omega) n hn, HFM.out.1.kindsP n hn⟩) w' h.g.d.row
                  rwa [HW9.out] at q
                have F7 : Hid (∀ x w', PpZ w (some ⟨bA, oA, none⟩) (some ⟨bB, oB, none⟩) a b b1 b2 A1 A2 u.nodes v.nodes c1 c2 ob sb bi bo br bw AX AO AR AW P5 P4 W9 cX cO cR cW w' → IsD W9 x w' → Calls Try.prog 13 #[.agg #[.slice AW W9.length cW], x] w' (Ans w' (.bool true))) := fun x w' h k => by
                  have q := h.t.isD.rsame k HL9.out HL9.out
                  rwa [decide_eq_true (rfl : W9 = W9)] at q
                refine wp_region_stable (S := (PpZ w (some ⟨bA, oA, none⟩) (some ⟨bB, oB, none⟩) a b b1 b2 A1 A2 u.nodes v.nodes c1 c2 ob sb bi bo br bw AX AO AR AW P5 P4 W9 cX cO cR cW)) (hSt := fun _ _ h hb => h.later hb) (plan := [[(21, none)], [(9, none)], [(164, some 0), (165, some 1)], [(166, some 2)], [(25, none)], [(9, none)], [(13, none)], [(169, some 5), (170, some 6)], [(168, some 4), (171, some 7)], [(167, some 3), (172, some 8)], [(173, some 9)], [(29, none)], [(9, none)], [(13, none)], [(176, some 12), (177, some 13)], [(175, some 11), (178, some 14)], [(174, some 10), (179, some 15)], [(180, some 16)], [(33, none)], [(9, none)], [(183, some 19)], [(182, some 18), (184, some 20)], [(181, some 17), (185, some 21)], [(186, some 22)]]) (by kernel_rfl) (by kernel_rfl) (by kernel_rfl) ?hS ?_
                rotate_left
                iterate 7 first
                  | (refine chain_skip (by rfl) (by rfl) ?_)
                  | (apply chain_want (by rfl)
                     · intro act wx hS hr
                       simp at hr
                       have ki := hS.i.blk.cell 0
                       have ko := hS.o.blk.cell 0
                       have kr := hS.r.blk.cell 0
                       have kt := hS.t.blk.cell 0
                       have kd := hS.g.d.blk.cell 0
                       have kc := hS.g.c.blk.cell 0
                       simp at ki ko kr kt kd kc
                       go_simp
                       (try go_ints)
                       first
                         | ((with_reducible refine (F1.out _ hS).mono ?_); rintro e w' ⟨rfl, hb⟩; exact Done.mk hb)
                         | (obtain ⟨x, hr2, hv⟩ := hr.2; simp only [hr.1, hr2, Option.getD_some]; refine (F3.out _ _ hS hv).mono ?_; rintro e w' ⟨rfl, hb⟩; exact Done.mk (v := .bool true) hb)
                         | (obtain ⟨x, hr2, hv⟩ := hr.2; simp only [hr.1, hr2, Option.getD_some]; refine (F5.out _ _ hS hv).mono ?_; rintro e w' ⟨rfl, hb⟩; exact Done.mk (v := .bool true) hb)
                         | (obtain ⟨x, hr2, hv⟩ := hr.2; simp only [hr.1, hr2, Option.getD_some]; refine (F7.out _ _ hS hv).mono ?_; rintro e w' ⟨rfl, hb⟩; exact Done.mk (v := .bool true) hb)
                         | exact Done.same
                    )
                (refine chain_rel (IsD P5) (IsD.later _) (by rfl) ?_ ?_
                 · intro act wx hS hr
                   simp at hr
                   have ki := hS.i.blk.cell 0
                   have ko := hS.o.blk.cell 0
                   have kr := hS.r.blk.cell 0
                   have kt := hS.t.blk.cell 0
                   have kd := hS.g.d.blk.cell 0
                   have kc := hS.g.c.blk.cell 0
                   simp at ki ko kr kt kd kc
                   all_goals go_simp
                   ((with_reducible refine (F2.out _ hS).mono ?_); intro e w' hp; obtain ⟨y, rfl, ho, hb⟩ := hp; exact Done.rel hb ho.isD)
                )
                iterate 6 first
                  | (refine chain_skip (by rfl) (by rfl) ?_)
                  | (apply chain_want (by rfl)
                     · intro act wx hS hr
                       simp at hr
                       have ki := hS.i.blk.cell 0
                       have ko := hS.o.blk.cell 0
                       have kr := hS.r.blk.cell 0
                       have kt := hS.t.blk.cell 0
                       have kd := hS.g.d.blk.cell 0
                       have kc := hS.g.c.blk.cell 0
                       simp at ki ko kr kt kd kc
                       go_simp
                       (try go_ints)
                       first
                         | ((with_reducible refine (F1.out _ hS).mono ?_); rintro e w' ⟨rfl, hb⟩; exact Done.mk hb)
                         | (obtain ⟨x, hr2, hv⟩ := hr.2; simp only [hr.1, hr2, Option.getD_some]; refine (F3.out _ _ hS hv).mono ?_; rintro e w' ⟨rfl, hb⟩; exact Done.mk (v := .bool true) hb)
                         | (obtain ⟨x, hr2, hv⟩ := hr.2; simp only [hr.1, hr2, Option.getD_some]; refine (F5.out _ _ hS hv).mono ?_; rintro e w' ⟨rfl, hb⟩; exact Done.mk (v := .bool true) hb)
                         | (obtain ⟨x, hr2, hv⟩ := hr.2; simp only [hr.1, hr2, Option.getD_some]; refine (F7.out _ _ hS hv).mono ?_; rintro e w' ⟨rfl, hb⟩; exact Done.mk (v := .bool true) hb)
                         | exact Done.same
                    )
                (refine chain_rel (IsD P4) (IsD.later _) (by rfl) ?_ ?_
                 · intro act wx hS hr
                   simp at hr
                   have ki := hS.i.blk.cell 0
                   have ko := hS.o.blk.cell 0
                   have kr := hS.r.blk.cell 0
                   have kt := hS.t.blk.cell 0
                   have kd := hS.g.d.blk.cell 0
                   have kc := hS.g.c.blk.cell 0
                   simp at ki ko kr kt kd kc
                   all_goals go_simp
                   ((with_reducible refine (F4.out _ hS).mono ?_); intro e w' hp; obtain ⟨y, rfl, ho, hb⟩ := hp; exact Done.rel hb ho.isD)
                )
                iterate 5 first
                  | (refine chain_skip (by rfl) (by rfl) ?_)
                  | (apply chain_want (by rfl)
                     · intro act wx hS hr
                       simp at hr
                       have ki := hS.i.blk.cell 0
                       have ko := hS.o.blk.cell 0
                       have kr := hS.r.blk.cell 0
                       have kt := hS.t.blk.cell 0
                       have kd := hS.g.d.blk.cell 0
                       have kc := hS.g.c.blk.cell 0
                       simp at ki ko kr kt kd kc
                       go_simp
                       (try go_ints)
                       first
                         | ((with_reducible refine (F1.out _ hS).mono ?_); rintro e w' ⟨rfl, hb⟩; exact Done.mk hb)
                         | (obtain ⟨x, hr2, hv⟩ := hr.2; simp only [hr.1, hr2, Option.getD_some]; refine (F3.out _ _ hS hv).mono ?_; rintro e w' ⟨rfl, hb⟩; exact Done.mk (v := .bool true) hb)
                         | (obtain ⟨x, hr2, hv⟩ := hr.2; simp only [hr.1, hr2, Option.getD_some]; refine (F5.out _ _ hS hv).mono ?_; rintro e w' ⟨rfl, hb⟩; exact Done.mk (v := .bool true) hb)
                         | (obtain ⟨x, hr2, hv⟩ := hr.2; simp only [hr.1, hr2, Option.getD_some]; refine (F7.out _ _ hS hv).mono ?_; rintro e w' ⟨rfl, hb⟩; exact Done.mk (v := .bool true) hb)
                         | exact Done.same
                    )
                (refine chain_rel (IsD W9) (IsD.later _) (by rfl) ?_ ?_
                 · intro act wx hS hr
                   simp at hr
                   have ki := hS.i.blk.cell 0
                   have ko := hS.o.blk.cell 0
                   have kr := hS.r.blk.cell 0
                   have kt := hS.t.blk.cell 0
                   have kd := hS.g.d.blk.cell 0
                   have kc := hS.g.c.blk.cell 0
                   simp at ki ko kr kt kd kc
                   all_goals go_simp
                   ((with_reducible refine (F6.out _ hS).mono ?_); intro e w' hp; obtain ⟨y, rfl, ho, hb⟩ := hp; exact Done.rel hb ho.isD)
                )
                iterate 3 first
                  | (refine chain_skip (by rfl) (by rfl) ?_)
                  | (apply chain_want (by rfl)
                     · intro act wx hS hr
                       simp at hr
                       have ki := hS.i.blk.cell 0
                       have ko := hS.o.blk.cell 0
                       have kr := hS.r.blk.cell 0
                       have kt := hS.t.blk.cell 0
                       have kd := hS.g.d.blk.cell 0
                       have kc := hS.g.c.blk.cell 0
                       simp at ki ko kr kt kd kc
                       go_simp
                       (try go_ints)
                       first
                         | ((with_reducible refine (F1.out _ hS).mono ?_); rintro e w' ⟨rfl, hb⟩; exact Done.mk hb)
                         | (obtain ⟨x, hr2, hv⟩ := hr.2; simp only [hr.1, hr2, Option.getD_some]; refine (F3.out _ _ hS hv).mono ?_; rintro e w' ⟨rfl, hb⟩; exact Done.mk (v := .bool true) hb)
                         | (obtain ⟨x, hr2, hv⟩ := hr.2; simp only [hr.1, hr2, Option.getD_some]; refine (F5.out _ _ hS hv).mono ?_; rintro e w' ⟨rfl, hb⟩; exact Done.mk (v := .bool true) hb)
                         | (obtain ⟨x, hr2, hv⟩ := hr.2; simp only [hr.1, hr2, Option.getD_some]; refine (F7.out _ _ hS hv).mono ?_; rintro e w' ⟨rfl, hb⟩; exact Done.mk (v := .bool true) hb)
                         | exact Done.same
                    )
                show ∀ w', _ → _
                intro wz hz
                simp [Act.put]
                case hS => exact HZ.out
                intro y7 hy7 y14 hy14 y20 hy20
                clear hy7 hy14 hy20
                go_wp2
                go_ret
                exact ⟨rfl, hz.g.s.bel⟩
            · have e2 : (er2 != 0) = true := by rw [bne_iff_ne]; exact h2
              clear h1 h2
              go_wp2
              go_ret
              exact ⟨rfl, HS6.out.bel⟩
          · have e1 : (er1 != 0) = true := by rw [bne_iff_ne]; exact h1
            clear h1
            go_wp2
            go_ret
            exact ⟨rfl, HS6.out.bel⟩
end Go.Proofs.Ytencdlcpnbdlbaa
