/- The statement ParseFaults of layer 5, walked. -/
import Derived.Test.YtencdlcpnbdlbaaM41
import Derived.Test.YtencdlcpnbdlbaaM44
import Derived.Test.YtencdlcpnbdlbaaM47
import Derived.Test.YtencdlcpnbdlbaaM42
import Derived.Test.YtencdlcpnbdlbaaM14
namespace Go.Proofs.Ytencdlcpnbdlbaa
open Go Go.RowKit
set_option linter.unusedVariables false
set_option linter.unusedSimpArgs false

def enF : Tk := { kind := 10, at_ := 1073741824 }
theorem enF_eq : tkC enF = #[.int .i64 10, .int .i64 1073741824, .int .u64 0, .int .u64 0, .int .u64 0, .int .u64 0, .string ⟨#[]⟩, .int .i64 0, .int .i64 0] := by kernel_rfl
structure PfS (w0 : World) (A B : Option Addr) (a b : List Tk) (w : World) : Prop where
  bel : Below w0.heap.size w0 w
  ra : TkRow w A a
  rb : TkRow w B b
theorem PfS.later {w0 w w' : World} {A B : Option Addr} {a b : List Tk} (h : PfS w0 A B a b w) (hb : Below w.heap.size w w') : PfS w0 A B a b w' := ⟨h.bel.trans (hb.mono h.bel.size), h.ra.later hb, h.rb.later hb⟩
/-- The least place from j on whose token stands there; or behind all. -/
def LeastP (l : List Tk) (p : Int) (j k : Nat) : Prop := (k = l.length ∧ ∀ i, j ≤ i → i < l.length → (tkAt l i).at_ ≠ p) ∨ (j ≤ k ∧ k < l.length ∧ (tkAt l k).at_ = p ∧ ∀ i, j ≤ i → i < k → (tkAt l i).at_ ≠ p)
theorem LeastP.hit {l : List Tk} {p : Int} {j : Nat} (hj : j < l.length) (h : (tkAt l j).at_ = p) : LeastP l p j j := .inr ⟨Nat.le_refl _, hj, h, fun i h1 h2 => by omega⟩
theorem LeastP.miss {l : List Tk} {p : Int} {j k : Nat} (h : LeastP l p (j + 1) k) (hn : (tkAt l j).at_ ≠ p) : LeastP l p j k := by
  rcases h with ⟨h1, h2⟩ | ⟨h1, h2, h3, h4⟩
  · exact .inl ⟨h1, fun i h5 h6 => by
      rcases Nat.lt_or_ge j i with h7 | h7
      · exact h2 i h7 h6
      · obtain rfl : i = j := by omega
        exact hn⟩
  · exact .inr ⟨by omega, h2, h3, fun i h5 h6 => by
      rcases Nat.lt_or_ge j i with h7 | h7
      · exact h4 i h7 h6
      · obtain rfl : i = j := by omega
        exact hn⟩
/-- The loop that looks for it, from behind. -/
def PfD (w0 : World) (A B : Option Addr) (a b : List Tk) (p : Int) (bd : Nat) (kv iv : Value) (w : World) : Prop := ∃ j k : Nat, j ≤ a.length ∧ iv = .int .i64 ((j : Int) - 1) ∧ kv = .int .i64 (k : Int) ∧ LeastP a p j k ∧ PfS w0 A B a b w
/-- The loop that looks for another one. -/
def PfU (w0 : World) (A B : Option Addr) (a b : List Tk) (p : Int) (k : Nat) (iv : Value) (w : World) : Prop := ∃ j : Nat, j ≤ a.length ∧ iv = .int .i64 (j : Int) ∧ (∀ i, i < j → i ≠ k → (tkAt a i).at_ ≠ p) ∧ PfS w0 A B a b w
theorem take_tk {a : List Tk} {n i : Nat} (h : i < n) (h2 : n ≤ a.length) : tkAt (a.take n) i = tkAt a i := by
  unfold tkAt; rw [List.getD_eq_getElem?_getD, List.getD_eq_getElem?_getD, List.getElem?_take, if_pos h]
theorem TkRow.take {w : World} {A : Option Addr} {a : List Tk} (h : TkRow w A a) {n : Nat} (hn : n ≤ a.length) : TkRow w A (a.take n) := fun i hi => by
  rw [List.length_take] at hi
  obtain ⟨b, o, h1, h2, h3⟩ := h i (by omega)
  refine ⟨b, o, h1, h2, fun j hj => ?_⟩
  have e : (a.take n).getD i tkEnd = a.getD i tkEnd := take_tk (by omega) hn
  rw [e]; exact h3 j hj
theorem app_ends {c d : List Tk} (hc : ∀ p, p < c.length → (tkAt c p).kind ≠ 10) (hd : TEnds d) : TEnds (c ++ d) := by
  have hp := hd.pos
  refine ⟨by rw [List.length_append]; omega, ?_, fun p hp2 => ?_⟩
  · rw [List.length_append, tk_right (by omega), show c.length + d.length - 1 - c.length = d.length - 1 by omega]; exact hd.last
  · rw [List.length_append] at hp2
    rcases Nat.lt_or_ge p c.length with h | h
    · rw [tk_left h]; exact hc p h
    · rw [tk_right h]; exact hd.only _ (by omega)
theorem app_txt {c d : List Tk} {B : Nat} (hc : ∀ p, p < c.length → (tkAt c p).text.length ≤ B) (hd : ∀ p, (tkAt d p).text.length ≤ B) (p : Nat) : (tkAt (c ++ d) p).text.length ≤ B := by
  rcases Nat.lt_or_ge p c.length with h | h
  · rw [tk_left h]; exact hc p h
  · rw [tk_right h]; exact hd _
/-- What a region that makes a row of F1 and of two more may do. -/
def FR (base : Nat) (F1 F2 : List Tk) (w w' : World) : Prop := base ≤ w.heap.size → (Below base w w' ∧ (∀ v, OwnK w base v F1 → OwnK w' base v F1) ∧ (∀ v, OwnK w base v F2 → OwnK w' base v F2) ∧ (∀ g vs, Blk w g vs 36 → vs.size < (F1.length + 2) * 9 → Blk w' g vs 36) ∧ (∀ g, Blk w g #[.slice none 0 0] 27 → Blk w' g #[.slice none 0 0] 27))
theorem FR.of {base : Nat} {F1 F2 : List Tk} (w w' : World) (hb : Below w.heap.size w w') : FR base F1 F2 w w' := fun h => ⟨hb.mono h, fun v k => k.later hb, fun v k => k.later hb, fun g vs k _ => k.later hb, fun g k => k.later hb⟩
structure FsS (w0 : World) (A B : Option Addr) (a b : List Tk) (base tb gf : Nat) (F1 : List Tk) (w : World) : Prop where
  pf : PfS w0 A B a b w
  bt : Blk w tb #[.int .i64 10, .int .i64 1073741824, .int .u64 0, .int .u64 0, .int .u64 0, .int .u64 0, .string ⟨#[]⟩, .int .i64 0, .int .i64 0] 36
  jf : JnW w gf F1
  lo : base ≤ w.heap.size
  w0b : w0.heap.size ≤ base
  la : ∀ x o, A = some ⟨x, o, none⟩ → x < base
  lb : ∀ x o, B = some ⟨x, o, none⟩ → x < base
  lt : tb < base
  lf : gf < base
theorem FsS.below {w0 w w' : World} {A B : Option Addr} {a b F1 : List Tk} {base tb gf : Nat} (h : FsS w0 A B a b base tb gf F1 w) (hb : Below base w w') : FsS w0 A B a b base tb gf F1 w' := by
  obtain ⟨cur, h1, h2, h3⟩ := h.jf
  exact ⟨⟨h.pf.bel.trans (hb.mono h.w0b), h.pf.ra.below h.la hb, h.pf.rb.below h.lb hb⟩, (hb.block tb h.lt).trans h.bt, ⟨cur, (hb.block gf h.lf).trans h1, h2, h3⟩, Nat.le_trans h.lo hb.size, h.w0b, h.la, h.lb, h.lt, h.lf⟩
theorem FsS.grow {w0 w w' : World} {A B : Option Addr} {a b F1 F2 : List Tk} {base tb gf : Nat} (h : FsS w0 A B a b base tb gf F1 w) (hr : FR base F1 F2 w w') : FsS w0 A B a b base tb gf F1 w' := h.below (hr h.lo).1
def F0P (base : Nat) (F1 : List Tk) (v : Value) (w : World) : Prop := base ≤ w.heap.size ∧ ∃ g, v = .slice (some ⟨g, 0, none⟩) 0 0 ∧ Blk w g #[] 36
theorem F0P.grow {base : Nat} {F2 : List Tk} (F1 : List Tk) (v : Value) (w w' : World) (h : F0P base F1 v w) (hr : FR base F1 F2 w w') : F0P base F1 v w' := by
  obtain ⟨h0, g, h1, h2⟩ := h
  have q := hr h0
  exact ⟨Nat.le_trans h0 q.1.size, g, h1, q.2.2.2.1 g _ h2 (by show 0 < _; omega)⟩
def F1P (base : Nat) (F1 : List Tk) (v : Value) (w : World) : Prop := base ≤ w.heap.size ∧ OwnK w base v F1
theorem F1P.grow {base : Nat} {F2 : List Tk} (F1 : List Tk) (v : Value) (w w' : World) (h : F1P base F1 v w) (hr : FR base F1 F2 w w') : F1P base F1 v w' := ⟨Nat.le_trans h.1 (hr h.1).1.size, (hr h.1).2.1 v h.2⟩
def F2P (base : Nat) (F2 : List Tk) (v : Value) (w : World) : Prop := base ≤ w.heap.size ∧ OwnK w base v F2
theorem F2P.grow {base : Nat} {F1 : List Tk} (F2 : List Tk) (v : Value) (w w' : World) (h : F2P base F2 v w) (hr : FR base F1 F2 w w') : F2P base F2 v w' := ⟨Nat.le_trans h.1 (hr h.1).1.size, (hr h.1).2.2.1 v h.2⟩
def twoC (k : Int) : Array Value := #[.int .i64 k, .int .i64 1073741823, .int .u64 0, .int .u64 0, .int .u64 0, .int .u64 0, .string ⟨#[]⟩, .int .i64 0, .int .i64 0, .int .i64 10, .int .i64 1073741824, .int .u64 0, .int .u64 0, .int .u64 0, .int .u64 0, .string ⟨#[]⟩, .int .i64 0, .int .i64 0]
def F5P (base : Nat) (F1 : List Tk) (k : Int) (v : Value) (w : World) : Prop := base ≤ w.heap.size ∧ 0 < F1.length ∧ ∃ g, v = .slice (some ⟨g, 0, none⟩) 2 2 ∧ Blk w g (twoC k) 36
theorem F5P.grow {base : Nat} {F2 : List Tk} (F1 : List Tk) (k : Int) (v : Value) (w w' : World) (h : F5P base F1 k v w) (hr : FR base F1 F2 w w') : F5P base F1 k v w' := by
  obtain ⟨h0, hp, g, h1, h2⟩ := h
  have q := hr h0
  exact ⟨Nat.le_trans h0 q.1.size, hp, g, h1, q.2.2.2.1 g _ h2 (by show 18 < _; omega)⟩
def FbP (base : Nat) (v : Value) (w : World) : Prop := base ≤ w.heap.size ∧ ∃ b, v = .pointer (some ⟨b, 0, none⟩) ∧ base ≤ b ∧ Blk w b #[.slice none 0 0] 27
theorem FbP.grow {base : Nat} {F1 F2 : List Tk} (v : Value) (w w' : World) (h : FbP base v w) (hr : FR base F1 F2 w w') : FbP base v w' := by
  obtain ⟨h0, b, h1, h2, h3⟩ := h
  have q := hr h0
  exact ⟨Nat.le_trans h0 q.1.size, b, h1, h2, q.2.2.2.2 b h3⟩
def xF (k : Int) : Tk := { kind := k, at_ := 1073741823 }
theorem two_row {w : World} {g : Nat} {k : Int} (h : Blk w g (twoC k) 36) : TkRow w (some ⟨g, 0, none⟩) [xF k, enF] := by
  have e1 : tkC (xF k) = #[.int .i64 k, .int .i64 1073741823, .int .u64 0, .int .u64 0, .int .u64 0, .int .u64 0, .string ⟨#[]⟩, .int .i64 0, .int .i64 0] := by kernel_rfl
  have e : flatK [xF k, enF] = (tkC (xF k)).toList ++ ((tkC enF).toList ++ []) := rfl
  rw [e1, enF_eq] at e
  exact JnW.row ⟨twoC k, h, Nat.le_refl _, fun j hj => by rw [e]; unfold twoC; simp⟩
/-- A store of what stands there. -/
theorem FR.store {base : Nat} {F1 F2 : List Tk} {w : World} {b : Nat} (h : Blk w b #[.slice none 0 0] 27) (hb : base ≤ b) : FR base F1 F2 w (w.setCell ⟨b, 0, none⟩ (.slice none 0 0)) := fun _ =>
  ⟨(Below.refl base w).setCell (p := ⟨b, 0, none⟩) hb _, fun v k => own_set k (own_typed k h (by decide)) _, fun v k => own_set k (own_typed k h (by decide)) _,
    fun g vs k _ => k.setCell_ne (a := ⟨b, 0, none⟩) (Blk.typed2 h k (by decide)) _, fun g k => by
      by_cases e : g = b
      · subst e; have := k.setCell 0 (.slice none 0 0); simpa using this
      · exact k.setCell_ne (a := ⟨b, 0, none⟩) (Ne.symm e) _⟩
def TrP (_ : Value) (_ : World) : Prop := True
theorem TrP.grow {base : Nat} {F1 F2 : List Tk} (v : Value) (w w' : World) (h : TrP v w) (hr : FR base F1 F2 w w') : TrP v w' := trivial
theorem wpf0 {w : World} {base : Nat} {F1 : List Tk} (h : base ≤ w.heap.size) : F0P base F1 (.slice (some ⟨w.heap.size, 0, none⟩) 0 0) (w.alloc (.cells #[] 36)) := ⟨Nat.le_trans h (by simp), _, rfl, Blk.new _ _ _⟩
set_option maxHeartbeats 32000000 in
set_option maxRecDepth 100000 in
theorem parseFaults_any (a b : List Tk) (A B : Option Addr) (ca cb : Nat) (hla : a.length ≤ 9223372036854775807) (hlb : b.length ≤ 9223372036854775807) (hca : a.length ≤ ca) (hcb : b.length ≤ cb) (w : World) (ra : TkRow w A a) (rb : TkRow w B b) : Calls Try.prog 5 #[.slice A a.length ca, .slice B b.length cb] w (Ans w (.bool true)) := by
  have AW : Hid (∀ w, Calls Try.prog 7 #[] w (Ans w (.bool true))) := awake5_any
  have MA : Hid (∀ w, TkRow w A a → Calls Try.prog 8 #[.slice A a.length ca] w (MayPost a w)) := fun w h => may_any a A ca hla w h
  have MB : Hid (∀ w, TkRow w B b → Calls Try.prog 8 #[.slice B b.length cb] w (MayPost b w)) := fun w h => may_any b B cb hlb w h
  have HRA := Lib.hid ra
  have HRB := Lib.hid rb
  clear ra rb
  go_enter Try.func5, Try.ntmps5
  go_wp2_with fail
  refine (AW.out w).mono ?_; rintro e1 w1 ⟨rfl, hb1⟩
  have HS : Hid (PfS w A B a b w1) := ⟨hb1, HRA.out.later hb1, HRB.out.later hb1⟩
  clear hb1 HRA HRB
  go_wp2_with fail
  refine (MA.out w1 HS.out.ra).mono ?_; intro e2 w2 hp
  obtain ⟨m1, rfl, hmay, hb2⟩ := hp
  have HS2 := Lib.hid (HS.out.later hb2)
  have HM1 := Lib.hid hmay
  clear hb2 hmay MA HS
  cases m1 with
  | false =>
    have HB2 := Lib.hid HS2.out.bel
    go_wp2_with fail
    refine (AW.out _).mono ?_; rintro e3 w3 ⟨rfl, hb3⟩
    have HB3 := Lib.hid (HB2.out.trans (hb3.mono HB2.out.size))
    clear hb3
    go_wp2
    go_ret
    exact ⟨rfl, HB3.out⟩
  | true =>
    have HMA := Lib.hid (HM1.out rfl)
    clear HM1
    go_wp2_with fail
    refine (MB.out w2 HS2.out.rb).mono ?_; intro e3 w3 hp
    obtain ⟨m2, rfl, hmay, hb3⟩ := hp
    have HS3 := Lib.hid (HS2.out.later hb3)
    have HM2 := Lib.hid hmay
    clear hb3 hmay MB HS2
    cases m2 with
    | false =>
      have HB2 := Lib.hid HS3.out.bel
      go_wp2_with fail
      refine (AW.out _).mono ?_; rintro e3 w3 ⟨rfl, hb3⟩
      have HB3 := Lib.hid (HB2.out.trans (hb3.mono HB2.out.size))
      clear hb3
      go_wp2
      go_ret
      exact ⟨rfl, HB3.out⟩
    | true =>
      have HMB := Lib.hid (HM2.out rfl)
      clear HM2 AW
      obtain ⟨bA, oA, hA, -, -⟩ := HS3.out.ra 0 HMA.out.pos
      subst hA
      obtain ⟨bB, oB, hB, -, -⟩ := HS3.out.rb 0 HMB.out.pos
      subst hB
      have hfa := HMA.out.few
      have hfb := HMB.out.few
      have hpa := HMA.out.pos
      have PA := Lib.hid (HMA.out.parse _ ca w3 HS3.out.ra)
      obtain ⟨r, hr⟩ : ∃ r, parseP a = r := ⟨_, rfl⟩
      rw [hr] at PA
      have HP := Lib.hid hr
      clear hr
      go_upto_region 3 with (fail)
      go_wp2_with fail
      refine PA.out.mono ?_; intro e4 w4 hq
      clear PA
      cases r with
      | out => exact absurd hq id
      | bad er p =>
        obtain ⟨rfl, hb4⟩ := hq
        have hne : (er != 0) = true := by rw [bne_iff_ne]; have := parse_err HP.out; omega
        have hbb := (Below.refl w4.heap.size w4).alloc (Nat.le_refl _) (.cells #[.slice none 0 0] 27)
        have HS5 := Lib.hid ((HS3.out.later hb4).later hbb)
        clear hb4 hbb HS3
        go_upto_region 4 with (fail)
        generalize w4.alloc (.cells #[.slice none 0 0] 27) = w5 at *
        generalize w4.heap.size = bd at *
        obtain ⟨m, hm⟩ : ∃ m, a.length = m + 1 := ⟨a.length - 1, by omega⟩
        have gl := HS5.out.ra.at (i := m) (by omega) rfl
        obtain ⟨z, hz⟩ : ∃ z, tkAt a m = z := ⟨_, rfl⟩
        rw [hz] at gl
        have HZ := Lib.hid hz
        clear hz
        unfold At9K at gl
        obtain ⟨g0, g1, -, -, -, -, -, -, -⟩ := gl
        have HM := Lib.hid hm
        rw [hm]
        have hm4 : m ≤ 400 := by omega
        have hw1 := wrap_of (by omega : (m : Int) ≤ 1073741824) (by omega : (0 : Int) ≤ (m : Int))
        have hw2 := wrap_of (by omega : (m : Int) + 1 - 1 ≤ 1073741824) (by omega : (0 : Int) ≤ (m : Int) + 1 - 1)
        have hmm : (m : Int) < (m : Int) + 1 := by omega
        clear hm hpa hfa
        by_cases h7 : er = 7
        · have e7 : (er == 7) = true := by rw [h7]; rfl
          by_cases hzp : z.at_ = p
          · have ez : (z.at_ != p) = false := by rw [hzp]; simp
            clear hzp h7
            go_wp2
            go_ret
            exact ⟨rfl, HS5.out.bel⟩
          · have ez : (z.at_ != p) = true := by rw [bne_iff_ne]; exact hzp
            obtain ⟨q, hq1, hq2, hq3⟩ := parse_bad_at HMA.out.ends HP.out (by omega)
            have hq2' := hq2 h7
            have HQ1 := Lib.hid hq1
            have HQ2 := Lib.hid hq2'
            have HQ3 : Hid (∀ l2, Agr a l2 q → parseP l2 = .bad 7 p) := fun l2 h => by rw [← h7]; exact hq3 l2 h
            have HZP := Lib.hid hzp
            clear hq1 hq2 hq2' hq3 h7 hzp
            have HL : Hid (PfD w (some ⟨bA, oA, none⟩) (some ⟨bB, oB, none⟩) a b p bd (.int .i64 ((m : Int) + 1)) (.int .i64 (m : Int)) w5) := ⟨m + 1, m + 1, by rw [HM.out]; exact Nat.le_refl _, by congr 1; omega, by congr 1, .inl ⟨HM.out.symm, fun i h1 h2 => by have := HM.out; omega⟩, HS5.out⟩
            clear HS5 hne
            go_wp2
            clear e7 ez g0 g1 hmm
            go_loopw [9, 10] (PfD w (some ⟨bA, oA, none⟩) (some ⟨bB, oB, none⟩) a b p bd) (fun _ iv _ => (intOf iv + 1).toNat)
            case atStart => exact HL.out
            case round =>
              obtain ⟨j, k, hj, rfl, rfl, hlp, hs⟩ := hrel
              have HLP := Lib.hid hlp
              have HS := Lib.hid hs
              clear hlp hs HL
              cases j with
              | succ i =>
                have ei : ((i + 1 : Nat) : Int) - 1 = (i : Int) := by omega
                rw [ei]
                have hil : i < a.length := by omega
                have g := HS.out.ra.at hil rfl
                obtain ⟨y, hy⟩ : ∃ y, tkAt a i = y := ⟨_, rfl⟩
                rw [hy] at g
                have HY := Lib.hid hy
                clear hy
                unfold At9K at g
                obtain ⟨-, t1, -, -, -, -, -, -, -⟩ := g
                have hi0 : (0 : Int) ≤ (i : Int) := by omega
                have him : i ≤ m := by have := HM.out; omega
                have hiz : (i : Int) < (m : Int) + 1 := by omega
                have hw3 : wrap64 ((i : Int) - 1) = (i : Int) - 1 := by unfold wrap64; omega
                clear ei
                by_cases hyp : y.at_ = p
                · have ey : (y.at_ == p) = true := by rw [hyp]; simp
                  have HL2 : Hid (LeastP a p i i) := LeastP.hit hil (by rw [HY.out]; exact hyp)
                  clear hyp HLP
                  go_wp2
                  go_roundw
                  case rel => exact ⟨i, i, by omega, rfl, rfl, HL2.out, HS.out⟩
                  case measure => simp [intOf] <;> omega
                · have ey : (y.at_ == p) = false := beq_false_of_ne hyp
                  have HL2 : Hid (LeastP a p i k) := LeastP.miss HLP.out (by rw [HY.out]; exact hyp)
                  clear hyp HLP
                  go_wp2
                  go_roundw
                  case rel => exact ⟨i, k, by omega, rfl, rfl, HL2.out, HS.out⟩
                  case measure => simp [intOf] <;> omega
              | zero =>
                have ei : ((0 : Nat) : Int) - 1 = -1 := rfl
                rw [ei]
                have HK : Hid (k ≤ q ∧ k < m ∧ (tkAt a k).at_ = p) := by
                  unfold Hid
                  have hm := HM.out
                  have hq1 := HQ1.out
                  rcases HLP.out with ⟨h1, h2⟩ | ⟨h1, h2, h3, h4⟩
                  · exact absurd HQ2.out (h2 q (Nat.zero_le _) hq1)
                  · have hkq : k ≤ q := by
                      rcases Nat.lt_or_ge q k with h | h
                      · exact absurd HQ2.out (h4 q (Nat.zero_le _) h)
                      · exact h
                    have hqm : q ≠ m := fun e => by
                      have h5 := HQ2.out
                      rw [e, HZ.out] at h5; exact HZP.out h5
                    exact ⟨hkq, by omega, h3⟩
                have hkm : k < m := HK.out.2.1
                have hkz : ¬ (m : Int) ≤ (k : Int) := by omega
                have HL3 : Hid (PfU w (some ⟨bA, oA, none⟩) (some ⟨bB, oB, none⟩) a b p k (.int .i64 0) wr) := ⟨0, Nat.zero_le _, rfl, fun i h => by omega, HS.out⟩
                clear HLP HS ei
                go_wp2
                go_loopw [11] (PfU w (some ⟨bA, oA, none⟩) (some ⟨bB, oB, none⟩) a b p k) (fun iv _ => a.length - (intOf iv).toNat)
                case atStart => exact HL3.out
                case round =>
                  obtain ⟨j, hj, rfl, hno, hs⟩ := hrel
                  have HNO := Lib.hid hno
                  have HS := Lib.hid hs
                  clear hno hs HL3
                  have hjm : j ≤ m + 1 := by have := HM.out; omega
                  by_cases hlt : j < m + 1
                  · have hltz : (j : Int) < (m : Int) + 1 := by omega
                    have hjl : j < a.length := by rw [HM.out]; exact hlt
                    have g := HS.out.ra.at hjl rfl
                    obtain ⟨y, hy⟩ : ∃ y, tkAt a j = y := ⟨_, rfl⟩
                    rw [hy] at g
                    have HY := Lib.hid hy
                    clear hy
                    unfold At9K at g
                    obtain ⟨-, t1, -, -, -, -, -, -, -⟩ := g
                    have hw3 := wrap_of (by omega : (j : Int) + 1 ≤ 1073741824) (by omega : (0 : Int) ≤ (j : Int) + 1)
                    by_cases hjk : j = k
                    · have ej : ((j : Int) != (k : Int)) = false := by rw [hjk]; simp
                      have HN2 : Hid (∀ i, i < j + 1 → i ≠ k → (tkAt a i).at_ ≠ p) := fun i h1 h2 => HNO.out i (by omega) h2
                      clear hjk
                      go_wp2
                      go_roundw
                      case rel => exact ⟨j + 1, hjl, by go_num, HN2.out, HS.out⟩
                      case measure => have := HM.out; simp [intOf]; omega
                    · have ej : ((j : Int) != (k : Int)) = true := by rw [bne_iff_ne]; omega
                      by_cases hyp : y.at_ = p
                      · have ey : (y.at_ == p) = true := by rw [hyp]; simp
                        clear hyp hjk
                        go_wp2
                        go_ret
                        exact ⟨rfl, HS.out.bel⟩
                      · have ey : (y.at_ == p) = false := beq_false_of_ne hyp
                        have HN2 : Hid (∀ i, i < j + 1 → i ≠ k → (tkAt a i).at_ ≠ p) := fun i h1 h2 => by
                          rcases Nat.lt_or_ge i j with h | h
                          · exact HNO.out i h h2
                          · obtain rfl : i = j := by omega
                            rw [HY.out]; exact hyp
                        clear hyp hjk
                        go_wp2
                        go_roundw
                        case rel => exact ⟨j + 1, hjl, by go_num, HN2.out, HS.out⟩
                        case measure => have := HM.out; simp [intOf]; omega
                  · have hltz : ¬ (j : Int) < (m : Int) + 1 := by omega
                    obtain rfl : j = m + 1 := by omega
                    have hqk : q = k := by
                      rcases Nat.lt_or_ge q (m + 1) with h | h
                      · rcases Nat.decEq q k with h2 | h2
                        · exact absurd HQ2.out (HNO.out q h h2)
                        · exact h2
                      · have := HQ1.out; have := HM.out; omega
                    have hka : k + 1 ≤ a.length := by have := HM.out; omega
                    have HTL : Hid ((a.take (k + 1)).length = k + 1) := by unfold Hid; rw [List.length_take]; omega
                    have HAG : Hid (parseP (a.take (k + 1) ++ b) = .bad 7 p) := HQ3.out _ (fun i hi => by
                      rw [tk_left (by rw [HTL.out]; omega), take_tk (by omega) hka])
                    have HEN : Hid (TEnds (a.take (k + 1) ++ b)) := app_ends (fun i hi => by
                      rw [HTL.out] at hi
                      rw [take_tk hi hka]; exact HMA.out.ends.only i (by have := HM.out; omega)) HMB.out.ends
                    have HTX : Hid (TkTxt' (a.take (k + 1) ++ b)) := fun i => app_txt (fun i hi => by
                      rw [HTL.out] at hi
                      rw [take_tk hi hka]; exact Nat.le_trans (HMA.out.txt i) (by decide)) (fun i => Nat.le_trans (HMB.out.txt i) (by decide)) i
                    have HLN : Hid ((a.take (k + 1)).length + b.length < 1048576) := by unfold Hid; rw [HTL.out]; omega
                    have HTK : Hid (TkRow (wr.alloc (.cells #[] 36)) (some ⟨bA, oA, none⟩) (a.take (k + 1))) := ((HS.out.ra.take hka).later ((Below.refl _ _).alloc (Nat.le_refl _) _))
                    have HE : Hid (Blk (wr.alloc (.cells #[] 36)) wr.heap.size #[] 36) := Blk.new _ _ _
                    have HSE : Hid (PfS w (some ⟨bA, oA, none⟩) (some ⟨bB, oB, none⟩) a b (wr.alloc (.cells #[] 36))) := HS.out.later ((Below.refl _ _).alloc (Nat.le_refl _) _)
                    have HBE : Hid (Below wr.heap.size wr (wr.alloc (.cells #[] 36))) := (Below.refl _ _).alloc (Nat.le_refl _) _
                    have hkc : k + 1 ≤ ca := by omega
                    have hw5 := wrap_of (by omega : (k : Int) + 1 ≤ 1073741824) (by omega : (0 : Int) ≤ (k : Int) + 1)
                    clear hltz hkz hlt hqk HQ1 HQ2 HQ3
                    go_wp2_with (first | (at_builtin; refine wpList_append_tkrow rfl _ _ rfl wr.heap.size (.slice (some ⟨wr.heap.size, 0, none⟩) 0 0) [] rfl (OwnK.empty HE.out (Nat.le_refl _)) bA oA ca (a.take (k + 1)) (by rw [HTL.out]; rfl) HTK.out (by rw [HTL.out]; simp; omega) HBE.out.size ?_; intro v7 w7 ho7 hb7; have HO7 := Lib.hid ho7; have HB7 := Lib.hid (HBE.out.trans (hb7 _ (Nat.le_refl _))); have HS7 := Lib.hid (HS.out.later HB7.out); clear ho7 hb7) | (at_builtin; refine wpList_append_tkrow rfl _ _ rfl wr.heap.size v7 (a.take (k + 1)) rfl HO7.out bB oB cb b rfl HS7.out.rb (by have := HLN.out; omega) HB7.out.size ?_; intro v8 w8 ho8 hb8; have HB8 := Lib.hid (HB7.out.trans (hb8 _ (Nat.le_refl _))); have HS8 := Lib.hid (HS.out.later HB8.out); obtain ⟨a8, c8, rfl, hr8⟩ := ho8.row; have HR8 := Lib.hid hr8; obtain ⟨nn, hnn⟩ : ∃ nn, (a.take (k + 1) ++ b).length = nn := ⟨_, rfl⟩; rw [hnn]; have HNN := Lib.hid hnn; clear ho8 hb8 hr8 hnn))
                    have PC := Lib.hid (parse_any HTX.out HEN.out (by rw [List.length_append]; exact HLN.out) a8 c8 w8 HR8.out)
                    rw [HNN.out, HAG.out] at PC
                    clear HAG HEN HTX HLN HR8 HTK HE HSE HBE
                    refine PC.out.mono ?_; intro e9 w9 hq
                    obtain ⟨rfl, hb9⟩ := hq
                    have HS9 := Lib.hid (HS8.out.later hb9)
                    clear hb9 PC HS8
                    have hbb := (Below.refl w9.heap.size w9).alloc (Nat.le_refl _) (.cells #[.slice none 0 0] 27)
                    have HSF := Lib.hid (HS9.out.later hbb)
                    clear hbb
                    go_wp2
                    go_ret
                    exact ⟨by simp, HSF.out.bel⟩
        · have e7 : (er == 7) = false := beq_false_of_ne h7
          clear h7
          go_wp2
          go_ret
          exact ⟨rfl, HS5.out.bel⟩
      | ok k t =>
        obtain ⟨nv, av, rfl, hn, ha, hb4⟩ := hq
        obtain ⟨an, kn, rfl, -⟩ := hn.row
        obtain ⟨aa, ka, rfl, -⟩ := ha.row
        obtain ⟨u, hdone, -⟩ := parse_done HMA.out.ends HMA.out.ok HP.out
        have hsome : 0 < u.read := hdone.some
        have hread : u.read = a.length - 1 := hdone.read
        have HD := Lib.hid hdone
        have hbb := (Below.refl w4.heap.size w4).alloc (Nat.le_refl _) (.cells #[.slice an t.nodes.length kn] 27)
        have HS5 := Lib.hid ((HS3.out.later hb4).later hbb)
        obtain ⟨m, hm⟩ : ∃ m, a.length = m + 1 := ⟨a.length - 1, by omega⟩
        have HM := Lib.hid hm
        have hm0 : 0 < m := by omega
        have hm4 : m ≤ 400 := by omega
        clear hb4 hbb HS3 hn ha hdone hsome hread HP hpa hfa
        generalize t.nodes.length = nn at *
        generalize t.ats.length = na at *
        go_upto_region 4 with (fail)
        generalize w4.alloc (.cells #[.slice an nn kn] 27) = w5 at *
        generalize w4.heap.size = bd at *
        have hw1 := wrap_of (by omega : (m : Int) ≤ 1073741824) (by omega : (0 : Int) ≤ (m : Int))
        have hw2 := wrap_of (by omega : (m : Int) + 1 - 1 ≤ 1073741824) (by omega : (0 : Int) ≤ (m : Int) + 1 - 1)
        have hmc : m ≤ ca := by omega
        have HDL : Hid (a.dropLast.length = m) := by unfold Hid; simp [hm]
        clear hm
        have htk : tkC enF = #[.int .i64 10, .int .i64 1073741824, .int .u64 0, .int .u64 0, .int .u64 0, .int .u64 0, .string ⟨#[]⟩, .int .i64 0, .int .i64 0] := enF_eq
        have hbt := (Below.refl w5.heap.size w5).alloc (Nat.le_refl _) (.cells #[.int .i64 10, .int .i64 1073741824, .int .u64 0, .int .u64 0, .int .u64 0, .int .u64 0, .string ⟨#[]⟩, .int .i64 0, .int .i64 0] 36)
        have HS6 := Lib.hid (HS5.out.later hbt)
        have HT6 := Lib.hid (Blk.new w5 #[.int .i64 10, .int .i64 1073741824, .int .u64 0, .int .u64 0, .int .u64 0, .int .u64 0, .string ⟨#[]⟩, .int .i64 0, .int .i64 0] 36)
        clear hbt HS5 htk
        go_upto_region 23 with (fail)
        generalize w5.alloc (.cells #[.int .i64 10, .int .i64 1073741824, .int .u64 0, .int .u64 0, .int .u64 0, .int .u64 0, .string ⟨#[]⟩, .int .i64 0, .int .i64 0] 36) = w6 at *
        generalize w5.heap.size = tb at *
        have HTK : Hid (TkRow (w6.alloc (.cells #[] 36)) (some ⟨bA, oA, none⟩) a.dropLast) := (HS6.out.ra.drop.later ((Below.refl _ _).alloc (Nat.le_refl _) _))
        have HE : Hid (Blk (w6.alloc (.cells #[] 36)) w6.heap.size #[] 36) := Blk.new _ _ _
        have HBE : Hid (Below w6.heap.size w6 (w6.alloc (.cells #[] 36))) := (Below.refl _ _).alloc (Nat.le_refl _) _
        go_upto_region 24 with (at_builtin; refine wpList_append_tkrow rfl _ _ rfl w6.heap.size (.slice (some ⟨w6.heap.size, 0, none⟩) 0 0) [] rfl (OwnK.empty HE.out (Nat.le_refl _)) bA oA ca a.dropLast (by rw [HDL.out]; rfl) HTK.out (by rw [HDL.out]; simp; omega) HBE.out.size ?_; intro v7 w7 ho7 hb7; obtain ⟨gf, cf, rfl, hcf, hgf, hjf⟩ := (show OwnK w7 w6.heap.size v7 a.dropLast from ho7).jn (by rw [HDL.out]; exact hm0); rw [HDL.out]; have HJF := Lib.hid hjf; have HB7 := Lib.hid (HBE.out.trans (hb7 _ (Nat.le_refl _))); have HS7 := Lib.hid (HS6.out.later HB7.out); have HT7 := Lib.hid (HT6.out.later HB7.out); clear ho7 hb7 hjf HTK HE HBE)
        have HAL : Hid (∀ x o, (some ⟨bA, oA, none⟩ : Option Addr) = some ⟨x, o, none⟩ → x < w7.heap.size) := fun x o h => by
          obtain ⟨b', o', h1, h2, _⟩ := HS7.out.ra 0 HMA.out.pos
          cases h; cases h1; exact h2
        have HBL : Hid (∀ x o, (some ⟨bB, oB, none⟩ : Option Addr) = some ⟨x, o, none⟩ → x < w7.heap.size) := fun x o h => by
          obtain ⟨b', o', h1, h2, _⟩ := HS7.out.rb 0 HMB.out.pos
          cases h; cases h1; exact h2
        have hgl : gf < w7.heap.size := by obtain ⟨cur, h1, _⟩ := HJF.out; exact h1.lt
        have HFS : Hid (FsS w (some ⟨bA, oA, none⟩) (some ⟨bB, oB, none⟩) a b w7.heap.size tb gf a.dropLast w7) := ⟨HS7.out, HT7.out, HJF.out, Nat.le_refl _, HS7.out.bel.size, HAL.out, HBL.out, HT7.out.lt, hgl⟩
        clear HS6 HT6 HAL HBL hgl HS7 HT7 HJF HB7 hw1 hw2 hmc
        generalize w7.heap.size = base at *
        have HS7 := HFS
        clear HFS
        have HFL := HDL
        obtain ⟨F1, hF1⟩ : ∃ F1, a.dropLast = F1 := ⟨_, rfl⟩
        have hx4 : parseP (F1 ++ [xF 4, enF]) = .bad 7 1073741823 := by rw [← hF1]; exact end_close (x := xF 4) (y := enF) HD.out rfl
        have hx5 : parseP (F1 ++ [xF 5, enF]) = .bad 7 1073741824 := by rw [← hF1]; exact end_or (x := xF 5) (y := enF) HD.out rfl rfl
        have hx8 : parseP (F1 ++ [xF 8, enF]) = .bad 7 1073741824 := by rw [← hF1]; exact end_frame (x := xF 8) (y := enF) HD.out rfl rfl
        have hen : ∀ k : Int, k ≠ 10 → TEnds (F1 ++ [xF k, enF]) := fun k hk => by
          rw [← hF1]
          refine app_ends (fun p hp => ?_) ⟨by simp, rfl, fun p hp => by
            obtain rfl : p = 0 := by simp at hp; omega
            exact hk⟩
          rw [tk_drop (by simpa using hp)]; exact HMA.out.ends.only p (by simpa using hp)
        have htx : ∀ k : Int, TkTxt' (F1 ++ [xF k, enF]) := fun k => by
          rw [← hF1]
          refine app_txt (fun p hp => ?_) (fun p => ?_)
          · rw [tk_drop (by simpa using hp)]; exact Nat.le_trans (HMA.out.txt p) (by decide)
          · have : (tkAt [xF k, enF] p).text = [] := by
              cases p with
              | zero => rfl
              | succ p => cases p with
                | zero => rfl
                | succ p => rfl
            rw [this]; simp
        rw [hF1] at HFL HS7
        have hlen2 : F1.length = m := HFL.out
        have PX : Hid (∀ k : Int, k ≠ 10 → ∀ r, parseP (F1 ++ [xF k, enF]) = r → ∀ a9 c9 w9, TkRow w9 a9 (F1 ++ [xF k, enF]) → Calls Try.prog 9 #[.slice a9 (F1 ++ [xF k, enF]).length c9] w9 (PParse w9 r)) := fun k hk r hr a9 c9 w9 h => by
          have q := parse_any (htx k) (hen k hk) (by rw [List.length_append, hlen2]; simp; omega) a9 c9 w9 h
          rw [hr] at q; exact q
        have PC4 : Hid (∀ a9 c9 w9, TkRow w9 a9 (F1 ++ [xF 4, enF]) → Calls Try.prog 9 #[.slice a9 (F1 ++ [xF 4, enF]).length c9] w9 (PParse w9 (.bad 7 1073741823))) := PX.out 4 (by decide) _ hx4
        have PC5 : Hid (∀ a9 c9 w9, TkRow w9 a9 (F1 ++ [xF 5, enF]) → Calls Try.prog 9 #[.slice a9 (F1 ++ [xF 5, enF]).length c9] w9 (PParse w9 (.bad 7 1073741824))) := PX.out 5 (by decide) _ hx5
        have PC8 : Hid (∀ a9 c9 w9, TkRow w9 a9 (F1 ++ [xF 8, enF]) → Calls Try.prog 9 #[.slice a9 (F1 ++ [xF 8, enF]).length c9] w9 (PParse w9 (.bad 7 1073741824))) := PX.out 8 (by decide) _ hx8
        clear hx4 hx5 hx8 hen htx hF1 hlen2 PX hcf HDL HD HM
        have hR4 : ∀ w w', Below w.heap.size w w' → FR base F1 (F1 ++ [xF 4, enF]) w w' := fun w w' => FR.of w w'
        have HR := Lib.hid hR4
        clear hR4
        have PC := PC4
        refine G.wp_region_stable (R := (FR base F1 (F1 ++ [xF 4, enF]))) HR.out (S := (FsS w (some ⟨bA, oA, none⟩) (some ⟨bB, oB, none⟩) a b base tb gf F1)) (hSt := fun _ _ h hr => h.grow hr) (plan := [[], [(17, none)], [(139, some 0), (140, some 1)], [], [(16, none)], [(142, some 3), (143, some 4)], [(141, some 2), (144, some 5)], [(145, some 6)], [(146, some 7)], [(138, some 8)], [(138, some 8)], [(138, some 8)], [(138, some 8)], [], [(18, some 13), (147, some 9)], [(148, some 10)], [(149, some 11)], [(150, some 12)]]) (by kernel_rfl) (by kernel_rfl) (by kernel_rfl) ?hS ?_
        rotate_left
        (refine G.chain_rel (F0P base F1) (F0P.grow F1) (by rfl) ?_ ?_
         · intro act wx hS hr
           simp at hr
           have ⟨t0, t1, t2, t3, t4, t5, t6, t7, t8⟩ := nine_cells hS.bt
           all_goals go_simp
           exact G.Done.rel (HR.out _ _ ((Below.refl _ _).alloc (Nat.le_refl _) _)) (wpf0 hS.lo)
        )
        iterate 1 first
          | (refine G.chain_skip (by rfl) (by rfl) ?_)
          | (apply G.chain_want (by rfl)
             · intro act wx hS hr
               simp at hr
               have ⟨t0, t1, t2, t3, t4, t5, t6, t7, t8⟩ := nine_cells hS.bt
               go_simp
               (try go_ints)
               first
                 | exact G.Done.same HR.out (v := .agg #[.int .i64 10, .int .i64 1073741824, .int .u64 0, .int .u64 0, .int .u64 0, .int .u64 0, .string ⟨#[]⟩, .int .i64 0, .int .i64 0])
                 | (obtain ⟨v, hr2, hlo, ho⟩ := hr; simp only [hr2, Option.getD_some]; obtain ⟨a9, c9, rfl, hr9⟩ := ho.row; refine (PC.out a9 c9 _ hr9).mono ?_; rintro e w' ⟨rfl, hb⟩; exact G.Done.mk (v := .tuple #[.agg #[.slice none 0 0], .slice none 0 0, .int .i64 7, .int .i64 1073741823]) (HR.out _ _ hb))
                 | exact G.Done.same HR.out
            )
        (refine G.chain_rel (F1P base F1) (F1P.grow F1) (by rfl) ?_ ?_
         · intro act wx hS hr
           simp at hr
           have ⟨t0, t1, t2, t3, t4, t5, t6, t7, t8⟩ := nine_cells hS.bt
           obtain ⟨⟨v, hr2, hlo, g0, rfl, hk⟩, hr3⟩ := hr
           refine wp_append_freshK (.tmp 139) (.tmp 140) rfl g0 (by simp [Act.eval, hr2]) hk F1 (some ⟨gf, 0, none⟩) cf (by simp [Act.eval, hr3, HFL.out]) hS.jf.row (by rw [HFL.out]; exact hm0) (by rw [HFL.out]; omega) ?_
           intro v' w' q1 q2
           exact G.Done.rel (HR.out _ _ q2) ⟨Nat.le_trans hS.lo q2.size, own_base q1 hS.lo⟩
           all_goals go_simp
        )
        iterate 2 first
          | (refine G.chain_skip (by rfl) (by rfl) ?_)
          | (apply G.chain_want (by rfl)
             · intro act wx hS hr
               simp at hr
               have ⟨t0, t1, t2, t3, t4, t5, t6, t7, t8⟩ := nine_cells hS.bt
               go_simp
               (try go_ints)
               first
                 | exact G.Done.same HR.out (v := .agg #[.int .i64 10, .int .i64 1073741824, .int .u64 0, .int .u64 0, .int .u64 0, .int .u64 0, .string ⟨#[]⟩, .int .i64 0, .int .i64 0])
                 | (obtain ⟨v, hr2, hlo, ho⟩ := hr; simp only [hr2, Option.getD_some]; obtain ⟨a9, c9, rfl, hr9⟩ := ho.row; refine (PC.out a9 c9 _ hr9).mono ?_; rintro e w' ⟨rfl, hb⟩; exact G.Done.mk (v := .tuple #[.agg #[.slice none 0 0], .slice none 0 0, .int .i64 7, .int .i64 1073741823]) (HR.out _ _ hb))
                 | exact G.Done.same HR.out
            )
        (refine G.chain_rel (F5P base F1 4) (F5P.grow F1 4) (by rfl) ?_ ?_
         · intro act wx hS hr
           simp at hr
           have ⟨t0, t1, t2, t3, t4, t5, t6, t7, t8⟩ := nine_cells hS.bt
           all_goals go_simp
           exact G.Done.rel (HR.out _ _ ((Below.refl _ _).alloc (Nat.le_refl _) _)) ⟨Nat.le_trans hS.lo (by simp), by rw [HFL.out]; exact hm0, _, rfl, Blk.new _ _ _⟩
        )
        (refine G.chain_rel (F2P base (F1 ++ [xF 4, enF])) (F2P.grow (F1 ++ [xF 4, enF])) (by rfl) ?_ ?_
         · intro act wx hS hr
           simp at hr
           have ⟨t0, t1, t2, t3, t4, t5, t6, t7, t8⟩ := nine_cells hS.bt
           obtain ⟨⟨v, hr2, hlo, ho⟩, v5, hr5, hlo5, hp5, g5, rfl, hk5⟩ := hr
           refine wp_append_tk2 (.tmp 141) (.tmp 144) rfl base v F1 (by simp [Act.eval, hr2]) ho g5 0 2 [xF 4, enF] (by simp [Act.eval, hr5]) (two_row hk5) (by simp) (by rw [HFL.out]; simp; omega) hS.lo ?_
           intro v' w' q1 q2 q3 q4 q5 q6
           have hbel : Below base wx w' := (Below.refl base wx).grown q2 hS.lo (fun k hk => (World.ownsRow.lt ho k hk).1)
           exact G.Done.rel (fun _ => ⟨hbel, q4, q5, q6, fun g k => (q2.block g k.lt (fun e => own_typed ho k (by decide) g e.symm rfl)).trans k⟩) ⟨Nat.le_trans hS.lo hbel.size, q1⟩
           all_goals go_simp
        )
        iterate 6 first
          | (refine G.chain_skip (by rfl) (by rfl) ?_)
          | (apply G.chain_want (by rfl)
             · intro act wx hS hr
               simp at hr
               have ⟨t0, t1, t2, t3, t4, t5, t6, t7, t8⟩ := nine_cells hS.bt
               go_simp
               (try go_ints)
               first
                 | exact G.Done.same HR.out (v := .agg #[.int .i64 10, .int .i64 1073741824, .int .u64 0, .int .u64 0, .int .u64 0, .int .u64 0, .string ⟨#[]⟩, .int .i64 0, .int .i64 0])
                 | (obtain ⟨v, hr2, hlo, ho⟩ := hr; simp only [hr2, Option.getD_some]; obtain ⟨a9, c9, rfl, hr9⟩ := ho.row; refine (PC.out a9 c9 _ hr9).mono ?_; rintro e w' ⟨rfl, hb⟩; exact G.Done.mk (v := .tuple #[.agg #[.slice none 0 0], .slice none 0 0, .int .i64 7, .int .i64 1073741823]) (HR.out _ _ hb))
                 | exact G.Done.same HR.out
            )
        (refine G.chain_rel (FbP base) (FbP.grow) (by rfl) ?_ ?_
         · intro act wx hS hr
           simp at hr
           have ⟨t0, t1, t2, t3, t4, t5, t6, t7, t8⟩ := nine_cells hS.bt
           all_goals go_simp
           exact G.Done.rel (HR.out _ _ ((Below.refl _ _).alloc (Nat.le_refl _) _)) ⟨Nat.le_trans hS.lo (by simp), _, rfl, hS.lo, Blk.new _ _ _⟩
        )
        (refine G.chain_rel (TrP) (TrP.grow) (by rfl) ?_ ?_
         · intro act wx hS hr
           simp at hr
           have ⟨t0, t1, t2, t3, t4, t5, t6, t7, t8⟩ := nine_cells hS.bt
           obtain ⟨⟨v, hr2, hlo, bb, rfl, hbb, hk⟩, hr3⟩ := hr
           have kc := hk.cell 0
           have kf := hk.frozen
           simp at kc
           all_goals go_simp
           exact G.Done.rel (v := .bool true) (FR.store hk hbb) trivial
        )
        iterate 3 first
          | (refine G.chain_skip (by rfl) (by rfl) ?_)
          | (apply G.chain_want (by rfl)
             · intro act wx hS hr
               simp at hr
               have ⟨t0, t1, t2, t3, t4, t5, t6, t7, t8⟩ := nine_cells hS.bt
               go_simp
               (try go_ints)
               first
                 | exact G.Done.same HR.out (v := .agg #[.int .i64 10, .int .i64 1073741824, .int .u64 0, .int .u64 0, .int .u64 0, .int .u64 0, .string ⟨#[]⟩, .int .i64 0, .int .i64 0])
                 | (obtain ⟨v, hr2, hlo, ho⟩ := hr; simp only [hr2, Option.getD_some]; obtain ⟨a9, c9, rfl, hr9⟩ := ho.row; refine (PC.out a9 c9 _ hr9).mono ?_; rintro e w' ⟨rfl, hb⟩; exact G.Done.mk (v := .tuple #[.agg #[.slice none 0 0], .slice none 0 0, .int .i64 7, .int .i64 1073741823]) (HR.out _ _ hb))
                 | exact G.Done.same HR.out
            )
        show ∀ w', _ → _
        intro wz hz
        simp [Act.put]
        case hS => exact HS7.out
        intro v0 hv0 v2 hv2 v5 hv5 v6 hv6 vb hvb vt hvt
        clear hv0 hv2 hv5 hv6 hvb hvt HR PC HS7
        have HS7 := Lib.hid hz
        clear hz
        go_upto_region 25 with (fail)
        have hR5 : ∀ w w', Below w.heap.size w w' → FR base F1 (F1 ++ [xF 5, enF]) w w' := fun w w' => FR.of w w'
        have HR := Lib.hid hR5
        clear hR5
        have PC := PC5
        refine G.wp_region_stable (R := (FR base F1 (F1 ++ [xF 5, enF]))) HR.out (S := (FsS w (some ⟨bA, oA, none⟩) (some ⟨bB, oB, none⟩) a b base tb gf F1)) (hSt := fun _ _ h hr => h.grow hr) (plan := [[], [(17, none)], [(152, some 0), (153, some 1)], [], [(16, none)], [(155, some 3), (156, some 4)], [(154, some 2), (157, some 5)], [(158, some 6)], [(159, some 7)], [(151, some 8)], [(151, some 8)], [(151, some 8)], [(151, some 8)], [], [(22, some 13), (160, some 9)], [(161, some 10)], [(162, some 11)], [(163, some 12)]]) (by kernel_rfl) (by kernel_rfl) (by kernel_rfl) ?hS ?_
        rotate_left
        (refine G.chain_rel (F0P base F1) (F0P.grow F1) (by rfl) ?_ ?_
         · intro act wx hS hr
           simp at hr
           have ⟨t0, t1, t2, t3, t4, t5, t6, t7, t8⟩ := nine_cells hS.bt
           all_goals go_simp
           exact G.Done.rel (HR.out _ _ ((Below.refl _ _).alloc (Nat.le_refl _) _)) (wpf0 hS.lo)
        )
        iterate 1 first
          | (refine G.chain_skip (by rfl) (by rfl) ?_)
          | (apply G.chain_want (by rfl)
             · intro act wx hS hr
               simp at hr
               have ⟨t0, t1, t2, t3, t4, t5, t6, t7, t8⟩ := nine_cells hS.bt
               go_simp
               (try go_ints)
               first
                 | exact G.Done.same HR.out (v := .agg #[.int .i64 10, .int .i64 1073741824, .int .u64 0, .int .u64 0, .int .u64 0, .int .u64 0, .string ⟨#[]⟩, .int .i64 0, .int .i64 0])
                 | (obtain ⟨v, hr2, hlo, ho⟩ := hr; simp only [hr2, Option.getD_some]; obtain ⟨a9, c9, rfl, hr9⟩ := ho.row; refine (PC.out a9 c9 _ hr9).mono ?_; rintro e w' ⟨rfl, hb⟩; exact G.Done.mk (v := .tuple #[.agg #[.slice none 0 0], .slice none 0 0, .int .i64 7, .int .i64 1073741824]) (HR.out _ _ hb))
                 | exact G.Done.same HR.out
            )
        (refine G.chain_rel (F1P base F1) (F1P.grow F1) (by rfl) ?_ ?_
         · intro act wx hS hr
           simp at hr
           have ⟨t0, t1, t2, t3, t4, t5, t6, t7, t8⟩ := nine_cells hS.bt
           obtain ⟨⟨v, hr2, hlo, g0, rfl, hk⟩, hr3⟩ := hr
           refine wp_append_freshK (.tmp 152) (.tmp 153) rfl g0 (by simp [Act.eval, hr2]) hk F1 (some ⟨gf, 0, none⟩) cf (by simp [Act.eval, hr3, HFL.out]) hS.jf.row (by rw [HFL.out]; exact hm0) (by rw [HFL.out]; omega) ?_
           intro v' w' q1 q2
           exact G.Done.rel (HR.out _ _ q2) ⟨Nat.le_trans hS.lo q2.size, own_base q1 hS.lo⟩
           all_goals go_simp
        )
        iterate 2 first
          | (refine G.chain_skip (by rfl) (by rfl) ?_)
          | (apply G.chain_want (by rfl)
             · intro act wx hS hr
               simp at hr
               have ⟨t0, t1, t2, t3, t4, t5, t6, t7, t8⟩ := nine_cells hS.bt
               go_simp
               (try go_ints)
               first
                 | exact G.Done.same HR.out (v := .agg #[.int .i64 10, .int .i64 1073741824, .int .u64 0, .int .u64 0, .int .u64 0, .int .u64 0, .string ⟨#[]⟩, .int .i64 0, .int .i64 0])
                 | (obtain ⟨v, hr2, hlo, ho⟩ := hr; simp only [hr2, Option.getD_some]; obtain ⟨a9, c9, rfl, hr9⟩ := ho.row; refine (PC.out a9 c9 _ hr9).mono ?_; rintro e w' ⟨rfl, hb⟩; exact G.Done.mk (v := .tuple #[.agg #[.slice none 0 0], .slice none 0 0, .int .i64 7, .int .i64 1073741824]) (HR.out _ _ hb))
                 | exact G.Done.same HR.out
            )
        (refine G.chain_rel (F5P base F1 5) (F5P.grow F1 5) (by rfl) ?_ ?_
         · intro act wx hS hr
           simp at hr
           have ⟨t0, t1, t2, t3, t4, t5, t6, t7, t8⟩ := nine_cells hS.bt
           all_goals go_simp
           exact G.Done.rel (HR.out _ _ ((Below.refl _ _).alloc (Nat.le_refl _) _)) ⟨Nat.le_trans hS.lo (by simp), by rw [HFL.out]; exact hm0, _, rfl, Blk.new _ _ _⟩
        )
        (refine G.chain_rel (F2P base (F1 ++ [xF 5, enF])) (F2P.grow (F1 ++ [xF 5, enF])) (by rfl) ?_ ?_
         · intro act wx hS hr
           simp at hr
           have ⟨t0, t1, t2, t3, t4, t5, t6, t7, t8⟩ := nine_cells hS.bt
           obtain ⟨⟨v, hr2, hlo, ho⟩, v5, hr5, hlo5, hp5, g5, rfl, hk5⟩ := hr
           refine wp_append_tk2 (.tmp 154) (.tmp 157) rfl base v F1 (by simp [Act.eval, hr2]) ho g5 0 2 [xF 5, enF] (by simp [Act.eval, hr5]) (two_row hk5) (by simp) (by rw [HFL.out]; simp; omega) hS.lo ?_
           intro v' w' q1 q2 q3 q4 q5 q6
           have hbel : Below base wx w' := (Below.refl base wx).grown q2 hS.lo (fun k hk => (World.ownsRow.lt ho k hk).1)
           exact G.Done.rel (fun _ => ⟨hbel, q4, q5, q6, fun g k => (q2.block g k.lt (fun e => own_typed ho k (by decide) g e.symm rfl)).trans k⟩) ⟨Nat.le_trans hS.lo hbel.size, q1⟩
           all_goals go_simp
        )
        iterate 6 first
          | (refine G.chain_skip (by rfl) (by rfl) ?_)
          | (apply G.chain_want (by rfl)
             · intro act wx hS hr
               simp at hr
               have ⟨t0, t1, t2, t3, t4, t5, t6, t7, t8⟩ := nine_cells hS.bt
               go_simp
               (try go_ints)
               first
                 | exact G.Done.same HR.out (v := .agg #[.int .i64 10, .int .i64 1073741824, .int .u64 0, .int .u64 0, .int .u64 0, .int .u64 0, .string ⟨#[]⟩, .int .i64 0, .int .i64 0])
                 | (obtain ⟨v, hr2, hlo, ho⟩ := hr; simp only [hr2, Option.getD_some]; obtain ⟨a9, c9, rfl, hr9⟩ := ho.row; refine (PC.out a9 c9 _ hr9).mono ?_; rintro e w' ⟨rfl, hb⟩; exact G.Done.mk (v := .tuple #[.agg #[.slice none 0 0], .slice none 0 0, .int .i64 7, .int .i64 1073741824]) (HR.out _ _ hb))
                 | exact G.Done.same HR.out
            )
        (refine G.chain_rel (FbP base) (FbP.grow) (by rfl) ?_ ?_
         · intro act wx hS hr
           simp at hr
           have ⟨t0, t1, t2, t3, t4, t5, t6, t7, t8⟩ := nine_cells hS.bt
           all_goals go_simp
           exact G.Done.rel (HR.out _ _ ((Below.refl _ _).alloc (Nat.le_refl _) _)) ⟨Nat.le_trans hS.lo (by simp), _, rfl, hS.lo, Blk.new _ _ _⟩
        )
        (refine G.chain_rel (TrP) (TrP.grow) (by rfl) ?_ ?_
         · intro act wx hS hr
           simp at hr
           have ⟨t0, t1, t2, t3, t4, t5, t6, t7, t8⟩ := nine_cells hS.bt
           obtain ⟨⟨v, hr2, hlo, bb, rfl, hbb, hk⟩, hr3⟩ := hr
           have kc := hk.cell 0
           have kf := hk.frozen
           simp at kc
           all_goals go_simp
           exact G.Done.rel (v := .bool true) (FR.store hk hbb) trivial
        )
        iterate 3 first
          | (refine G.chain_skip (by rfl) (by rfl) ?_)
          | (apply G.chain_want (by rfl)
             · intro act wx hS hr
               simp at hr
               have ⟨t0, t1, t2, t3, t4, t5, t6, t7, t8⟩ := nine_cells hS.bt
               go_simp
               (try go_ints)
               first
                 | exact G.Done.same HR.out (v := .agg #[.int .i64 10, .int .i64 1073741824, .int .u64 0, .int .u64 0, .int .u64 0, .int .u64 0, .string ⟨#[]⟩, .int .i64 0, .int .i64 0])
                 | (obtain ⟨v, hr2, hlo, ho⟩ := hr; simp only [hr2, Option.getD_some]; obtain ⟨a9, c9, rfl, hr9⟩ := ho.row; refine (PC.out a9 c9 _ hr9).mono ?_; rintro e w' ⟨rfl, hb⟩; exact G.Done.mk (v := .tuple #[.agg #[.slice none 0 0], .slice none 0 0, .int .i64 7, .int .i64 1073741824]) (HR.out _ _ hb))
                 | exact G.Done.same HR.out
            )
        show ∀ w', _ → _
        intro wz hz
        simp [Act.put]
        case hS => exact HS7.out
        intro v0 hv0 v2 hv2 v5 hv5 v6 hv6 vb hvb vt hvt
        clear hv0 hv2 hv5 hv6 hvb hvt HR PC HS7
        have HS7 := Lib.hid hz
        clear hz
        go_upto_region 26 with (fail)
        have hR8 : ∀ w w', Below w.heap.size w w' → FR base F1 (F1 ++ [xF 8, enF]) w w' := fun w w' => FR.of w w'
        have HR := Lib.hid hR8
        clear hR8
        have PC := PC8
        refine G.wp_region_stable (R := (FR base F1 (F1 ++ [xF 8, enF]))) HR.out (S := (FsS w (some ⟨bA, oA, none⟩) (some ⟨bB, oB, none⟩) a b base tb gf F1)) (hSt := fun _ _ h hr => h.grow hr) (plan := [[], [(17, none)], [(165, some 0), (166, some 1)], [], [(16, none)], [(168, some 3), (169, some 4)], [(167, some 2), (170, some 5)], [(171, some 6)], [(172, some 7)], [(164, some 8)], [(164, some 8)], [(164, some 8)], [(164, some 8)], [], [(26, some 13), (173, some 9)], [(174, some 10)], [(175, some 11)], [(176, some 12)]]) (by kernel_rfl) (by kernel_rfl) (by kernel_rfl) ?hS ?_
        rotate_left
        (refine G.chain_rel (F0P base F1) (F0P.grow F1) (by rfl) ?_ ?_
         · intro act wx hS hr
           simp at hr
           have ⟨t0, t1, t2, t3, t4, t5, t6, t7, t8⟩ := nine_cells hS.bt
           all_goals go_simp
           exact G.Done.rel (HR.out _ _ ((Below.refl _ _).alloc (Nat.le_refl _) _)) (wpf0 hS.lo)
        )
        iterate 1 first
          | (refine G.chain_skip (by rfl) (by rfl) ?_)
          | (apply G.chain_want (by rfl)
             · intro act wx hS hr
               simp at hr
               have ⟨t0, t1, t2, t3, t4, t5, t6, t7, t8⟩ := nine_cells hS.bt
               go_simp
               (try go_ints)
               first
                 | exact G.Done.same HR.out (v := .agg #[.int .i64 10, .int .i64 1073741824, .int .u64 0, .int .u64 0, .int .u64 0, .int .u64 0, .string ⟨#[]⟩, .int .i64 0, .int .i64 0])
                 | (obtain ⟨v, hr2, hlo, ho⟩ := hr; simp only [hr2, Option.getD_some]; obtain ⟨a9, c9, rfl, hr9⟩ := ho.row; refine (PC.out a9 c9 _ hr9).mono ?_; rintro e w' ⟨rfl, hb⟩; exact G.Done.mk (v := .tuple #[.agg #[.slice none 0 0], .slice none 0 0, .int .i64 7, .int .i64 1073741824]) (HR.out _ _ hb))
                 | exact G.Done.same HR.out
            )
        (refine G.chain_rel (F1P base F1) (F1P.grow F1) (by rfl) ?_ ?_
         · intro act wx hS hr
           simp at hr
           have ⟨t0, t1, t2, t3, t4, t5, t6, t7, t8⟩ := nine_cells hS.bt
           obtain ⟨⟨v, hr2, hlo, g0, rfl, hk⟩, hr3⟩ := hr
           refine wp_append_freshK (.tmp 165) (.tmp 166) rfl g0 (by simp [Act.eval, hr2]) hk F1 (some ⟨gf, 0, none⟩) cf (by simp [Act.eval, hr3, HFL.out]) hS.jf.row (by rw [HFL.out]; exact hm0) (by rw [HFL.out]; omega) ?_
           intro v' w' q1 q2
           exact G.Done.rel (HR.out _ _ q2) ⟨Nat.le_trans hS.lo q2.size, own_base q1 hS.lo⟩
           all_goals go_simp
        )
        iterate 2 first
          | (refine G.chain_skip (by rfl) (by rfl) ?_)
          | (apply G.chain_want (by rfl)
             · intro act wx hS hr
               simp at hr
               have ⟨t0, t1, t2, t3, t4, t5, t6, t7, t8⟩ := nine_cells hS.bt
               go_simp
               (try go_ints)
               first
                 | exact G.Done.same HR.out (v := .agg #[.int .i64 10, .int .i64 1073741824, .int .u64 0, .int .u64 0, .int .u64 0, .int .u64 0, .string ⟨#[]⟩, .int .i64 0, .int .i64 0])
                 | (obtain ⟨v, hr2, hlo, ho⟩ := hr; simp only [hr2, Option.getD_some]; obtain ⟨a9, c9, rfl, hr9⟩ := ho.row; refine (PC.out a9 c9 _ hr9).mono ?_; rintro e w' ⟨rfl, hb⟩; exact G.Done.mk (v := .tuple #[.agg #[.slice none 0 0], .slice none 0 0, .int .i64 7, .int .i64 1073741824]) (HR.out _ _ hb))
                 | exact G.Done.same HR.out
            )
        (refine G.chain_rel (F5P base F1 8) (F5P.grow F1 8) (by rfl) ?_ ?_
         · intro act wx hS hr
           simp at hr
           have ⟨t0, t1, t2, t3, t4, t5, t6, t7, t8⟩ := nine_cells hS.bt
           all_goals go_simp
           exact G.Done.rel (HR.out _ _ ((Below.refl _ _).alloc (Nat.le_refl _) _)) ⟨Nat.le_trans hS.lo (by simp), by rw [HFL.out]; exact hm0, _, rfl, Blk.new _ _ _⟩
        )
        (refine G.chain_rel (F2P base (F1 ++ [xF 8, enF])) (F2P.grow (F1 ++ [xF 8, enF])) (by rfl) ?_ ?_
         · intro act wx hS hr
           simp at hr
           have ⟨t0, t1, t2, t3, t4, t5, t6, t7, t8⟩ := nine_cells hS.bt
           obtain ⟨⟨v, hr2, hlo, ho⟩, v5, hr5, hlo5, hp5, g5, rfl, hk5⟩ := hr
           refine wp_append_tk2 (.tmp 167) (.tmp 170) rfl base v F1 (by simp [Act.eval, hr2]) ho g5 0 2 [xF 8, enF] (by simp [Act.eval, hr5]) (two_row hk5) (by simp) (by rw [HFL.out]; simp; omega) hS.lo ?_
           intro v' w' q1 q2 q3 q4 q5 q6
           have hbel : Below base wx w' := (Below.refl base wx).grown q2 hS.lo (fun k hk => (World.ownsRow.lt ho k hk).1)
           exact G.Done.rel (fun _ => ⟨hbel, q4, q5, q6, fun g k => (q2.block g k.lt (fun e => own_typed ho k (by decide) g e.symm rfl)).trans k⟩) ⟨Nat.le_trans hS.lo hbel.size, q1⟩
           all_goals go_simp
        )
        iterate 6 first
          | (refine G.chain_skip (by rfl) (by rfl) ?_)
          | (apply G.chain_want (by rfl)
             · intro act wx hS hr
               simp at hr
               have ⟨t0, t1, t2, t3, t4, t5, t6, t7, t8⟩ := nine_cells hS.bt
               go_simp
               (try go_ints)
               first
                 | exact G.Done.same HR.out (v := .agg #[.int .i64 10, .int .i64 1073741824, .int .u64 0, .int .u64 0, .int .u64 0, .int .u64 0, .string ⟨#[]⟩, .int .i64 0, .int .i64 0])
                 | (obtain ⟨v, hr2, hlo, ho⟩ := hr; simp only [hr2, Option.getD_some]; obtain ⟨a9, c9, rfl, hr9⟩ := ho.row; refine (PC.out a9 c9 _ hr9).mono ?_; rintro e w' ⟨rfl, hb⟩; exact G.Done.mk (v := .tuple #[.agg #[.slice none 0 0], .slice none 0 0, .int .i64 7, .int .i64 1073741824]) (HR.out _ _ hb))
                 | exact G.Done.same HR.out
            )
        (refine G.chain_rel (FbP base) (FbP.grow) (by rfl) ?_ ?_
         · intro act wx hS hr
           simp at hr
           have ⟨t0, t1, t2, t3, t4, t5, t6, t7, t8⟩ := nine_cells hS.bt
           all_goals go_simp
           exact G.Done.rel (HR.out _ _ ((Below.refl _ _).alloc (Nat.le_refl _) _)) ⟨Nat.le_trans hS.lo (by simp), _, rfl, hS.lo, Blk.new _ _ _⟩
        )
        (refine G.chain_rel (TrP) (TrP.grow) (by rfl) ?_ ?_
         · intro act wx hS hr
           simp at hr
           have ⟨t0, t1, t2, t3, t4, t5, t6, t7, t8⟩ := nine_cells hS.bt
           obtain ⟨⟨v, hr2, hlo, bb, rfl, hbb, hk⟩, hr3⟩ := hr
           have kc := hk.cell 0
           have kf := hk.frozen
           simp at kc
           all_goals go_simp
           exact G.Done.rel (v := .bool true) (FR.store hk hbb) trivial
        )
        iterate 3 first
          | (refine G.chain_skip (by rfl) (by rfl) ?_)
          | (apply G.chain_want (by rfl)
             · intro act wx hS hr
               simp at hr
               have ⟨t0, t1, t2, t3, t4, t5, t6, t7, t8⟩ := nine_cells hS.bt
               go_simp
               (try go_ints)
               first
                 | exact G.Done.same HR.out (v := .agg #[.int .i64 10, .int .i64 1073741824, .int .u64 0, .int .u64 0, .int .u64 0, .int .u64 0, .string ⟨#[]⟩, .int .i64 0, .int .i64 0])
                 | (obtain ⟨v, hr2, hlo, ho⟩ := hr; simp only [hr2, Option.getD_some]; obtain ⟨a9, c9, rfl, hr9⟩ := ho.row; refine (PC.out a9 c9 _ hr9).mono ?_; rintro e w' ⟨rfl, hb⟩; exact G.Done.mk (v := .tuple #[.agg #[.slice none 0 0], .slice none 0 0, .int .i64 7, .int .i64 1073741824]) (HR.out _ _ hb))
                 | exact G.Done.same HR.out
            )
        show ∀ w', _ → _
        intro wz hz
        simp [Act.put]
        case hS => exact HS7.out
        intro v0 hv0 v2 hv2 v5 hv5 v6 hv6 vb hvb vt hvt
        clear hv0 hv2 hv5 hv6 hvb hvt HR PC HS7
        have HS7 := Lib.hid hz
        clear hz
        clear PC4 PC5 PC8
        go_wp2
        go_ret
        exact ⟨by simp, HS7.out.pf.bel⟩
end Go.Proofs.Ytencdlcpnbdlbaa
