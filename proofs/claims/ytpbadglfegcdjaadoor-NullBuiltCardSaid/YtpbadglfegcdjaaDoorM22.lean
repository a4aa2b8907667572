/- Bounds of pairs: walked. -/
import Derived.Test.YtpbadglfegcdjaaDoorM04
import Derived.Test.YtpbadglfegcdjaaDoorM21
namespace Go.Proofs.YtpbadglfegcdjaaDoor
open Go Go.RowKit
set_option linter.unusedVariables false
set_option linter.unusedSimpArgs false

def bdN (n : Nat) : Nat := 4 ^ (min n 31)
theorem bdN_le (n : Nat) : 1 ≤ bdN n ∧ bdN n ≤ 4611686018427387904 := by
  unfold bdN
  refine ⟨Nat.one_le_pow _ _ (by decide), ?_⟩
  have : (4 : Nat) ^ min n 31 ≤ 4 ^ 31 := Nat.pow_le_pow_right (by decide) (Nat.min_le_right _ _)
  exact Nat.le_trans this (by decide)
theorem bdN_succ {n : Nat} (h : n ≤ 30) : bdN (n + 1) = 4 * bdN n := by
  unfold bdN
  rw [Nat.min_eq_left (by omega), Nat.min_eq_left (by omega), Nat.pow_succ, Nat.mul_comm]
theorem bdN_mono (n : Nat) : bdN n ≤ bdN (n + 1) := by
  unfold bdN
  exact Nat.pow_le_pow_right (by decide) (by omega)
def BdL (w0 : World) (n : Nat) (b i : Value) (w : World) : Prop := ∃ k : Nat, k ≤ n ∧ k ≤ 31 ∧ i = .int .i64 (k : Int) ∧ b = .int .i64 ((bdN k : Nat) : Int) ∧ w = w0
end Go.Proofs.YtpbadglfegcdjaaDoor
/- The document's sizes: walked. -/
namespace Go.Proofs.YtpbadglfegcdjaaDoor
open Go Go.RowKit
set_option linter.unusedVariables false
set_option linter.unusedSimpArgs false

structure RzS (w0 : World) (A : Option Addr) (l : List Nd) (c : Nat) (n : Nd) (w : World) : Prop where
  bel : Below w0.heap.size w0 w
  row : NRow w A l
  box : Blk w w0.heap.size #[.slice A l.length c] 24
  who : Blk w (w0.heap.size + 1) (ndC n) 36
theorem RzS.later {w0 w w' : World} {A : Option Addr} {l : List Nd} {c : Nat} {n : Nd} (h : RzS w0 A l c n w) (hb : Below w.heap.size w w') : RzS w0 A l c n w' := ⟨h.bel.trans (hb.mono h.bel.size), h.row.later hb, h.box.later hb, h.who.later hb⟩
theorem RzS.new (w : World) (A : Option Addr) (l : List Nd) (c : Nat) (n : Nd) (h : NRow w A l) : RzS w A l c n ((w.alloc (.cells #[.slice A l.length c] 24)).alloc (.cells (ndC n) 36)) := by
  have HB := ((Below.refl w.heap.size w).alloc (Nat.le_refl _) (.cells #[.slice A l.length c] 24)).alloc (by simp) (.cells (ndC n) 36)
  exact ⟨HB, h.later HB, (Blk.new w _ _).alloc _, Blk.new' (by simp) _ _⟩
theorem capV (x : Nat) : min (x : Int) 1099511627776 = ((min x szM : Nat) : Int) := by rw [szM_eq]; omega
end Go.Proofs.YtpbadglfegcdjaaDoor
/- Sizes: what the laws call, of descriptions wherever they stand. -/
namespace Go.Proofs.YtpbadglfegcdjaaDoor
open Go Go.RowKit
set_option linter.unusedVariables false
set_option linter.unusedSimpArgs false

/-- A description that has its form, and isn't long. -/
structure Sm (l : List Nd) : Prop where
  form : Form l
  len : l.length ≤ 1000
  txt : Txt l
theorem Form.at_ {l : List Nd} (h : Form l) {n : Nd} (hn : n ∈ l) : ∃ i, i < l.length ∧ atN l i = n := by
  obtain ⟨i, hi, rfl⟩ := List.mem_iff_getElem.1 hn
  exact ⟨i, hi, by unfold atN; rw [List.getD_eq_getElem?_getD, List.getElem?_eq_getElem hi]; rfl⟩
theorem okN.ndOk {l : List Nd} {i : Nat} {n : Nd} (h : okN l i n) (ht : n.text.length ≤ 281474976710656) : NdOk n := by
  obtain ⟨hb, hk⟩ := h
  have hh : n.hi = 0 ∨ (0 ≤ n.hi ∧ n.hi ≤ 255) := by
    rcases hk with hk | hk | ⟨hk, _⟩ | ⟨hk, _⟩ | ⟨hk, _, h1, h2, h3⟩ | ⟨hk, _⟩
    · left; rw [← hb]; unfold backN; rw [if_pos hk]
    · left; rw [← hb]; unfold backN; rw [if_neg (by omega), if_pos hk]
    · left; rw [← hb]; unfold backN; rw [if_neg (by omega), if_neg (by omega), if_pos hk]
    · left; rw [← hb]; unfold backN; rw [if_neg (by omega), if_neg (by omega), if_neg (by omega), if_pos hk]
    · right; omega
    · left; rw [← hb]; unfold backN; rw [if_neg (by omega), if_neg (by omega), if_neg (by omega), if_neg (by omega), if_neg (by omega), if_pos hk]
  exact ⟨by omega, by omega, ht⟩
theorem Sm.ok {l : List Nd} (h : Sm l) : ∀ n ∈ l, NdOk n := fun n hn => by
  obtain ⟨i, hi, rfl⟩ := h.form.at_ hn
  exact (h.form.2.1 i hi).ndOk (txt_at h.txt i)
theorem Sm.mv {l : List Nd} (h : Sm l) {d : Int} (h1 : -1073741824 ≤ d) (h2 : d ≤ 1073741824) : ∀ n ∈ l, MvOk d n ∧ n.kind ≤ 9 := fun n hn => by
  have hl := h.len
  obtain ⟨i, hi, rfl⟩ := h.form.at_ hn
  exact ⟨(h.form.2.1 i hi).mvOk (by omega) (txt_at h.txt i) h1 h2, (h.form.2.1 i hi).kind9⟩
theorem Txt.snoc {l : List Nd} (h : Txt l) {n : Nd} (hn : n.text = []) : Txt (l ++ [n]) := fun m hm => by
  rcases List.mem_append.1 hm with h1 | h1
  · exact h m h1
  · rw [List.mem_singleton.1 h1, hn]; simp
theorem Txt.mv {l : List Nd} (h : Txt l) (d : Int) : Txt (l.map (mvN d)) := fun m hm => by
  obtain ⟨n, hn, rfl⟩ := List.mem_map.1 hm
  have e : (mvN d n).text = n.text := by unfold mvN; (repeat' split) <;> rfl
  rw [e]; exact h n hn
theorem Sm.wrap {l : List Nd} (h : Sm l) (hl : l.length ≤ 999) {kind : Int} (hk : kind = 6 ∨ kind = 8 ∨ kind = 9) : Sm (wrapL kind 0 0 l) :=
  ⟨wrap_form h.form hk ⟨rfl, rfl⟩, by unfold wrapL; rw [List.length_append]; simp; omega, by unfold wrapL; exact h.txt.snoc rfl⟩
theorem Sm.rep {l : List Nd} (h : Sm l) (hl : l.length ≤ 999) {lo hi : Int} (h1 : 0 ≤ lo) (h2 : lo ≤ hi) (h3 : hi ≤ 255) : Sm (wrapL 7 lo hi l) :=
  ⟨wrap_form7 h.form h1 h2 h3, by unfold wrapL; rw [List.length_append]; simp; omega, by unfold wrapL; exact h.txt.snoc rfl⟩
theorem Sm.pair {l m : List Nd} (h : Sm l) (k : Sm m) (hl : l.length + m.length ≤ 999) {kind : Int} (hk : kind = 4 ∨ kind = 5) : Sm (pairL kind l m) :=
  ⟨pair_form h.form k.form hk, by unfold pairL; rw [List.length_append, List.length_append, List.length_map]; simp; omega, by
    unfold pairL
    refine Txt.snoc (fun n hn => ?_) rfl
    rcases List.mem_append.1 hn with h1 | h1
    · exact h.txt n h1
    · exact k.txt.mv _ n h1⟩
theorem Sm.sub {l : List Nd} (h : Sm l) {i : Nat} (hi : i < l.length) : Sm (subL l i) :=
  ⟨sub_form hi (h.form.okTo hi), by have := h.len; rw [subL_length hi]; omega, by
    unfold subL
    refine Txt.mv (fun n hn => ?_) _
    unfold seg at hn
    exact h.txt n (List.mem_of_mem_drop (List.mem_of_mem_take hn))⟩
theorem wrapL_length (kind lo hi : Int) (l : List Nd) : (wrapL kind lo hi l).length = l.length + 1 := by unfold wrapL; rw [List.length_append]; rfl
theorem IsD.rwrap {l : List Nd} {v : Value} {w : World} (h : IsD l v w) (hs : Sm l) (kind lo hi : Int) : Calls Tryd.prog 18 #[.int .i64 kind, .int .i64 lo, .int .i64 hi, v] w (DPost w (wrapL kind lo hi l)) := by
  obtain ⟨A, c, hc, rfl, hr⟩ := h
  exact rwrap_any kind lo hi l A c hs.form.1 (by have := hs.len; omega) (hs.mv (by omega) (by omega)) w hr
theorem IsD.rpair {l m : List Nd} {u v : Value} {w : World} (h : IsD l u w) (k : IsD m v w) (hs : Sm l) (ks : Sm m) (kind : Int) : Calls Tryd.prog 17 #[.int .i64 kind, u, v] w (DPost w (pairL kind l m)) := by
  obtain ⟨A, c, hc, rfl, hr⟩ := h
  obtain ⟨B, d, hd, rfl, hq⟩ := k
  have h1 := hs.len
  have h2 := ks.len
  exact rpairs_any kind l m A B c d hs.form.1 ks.form.1 (by omega) (by omega) (hs.mv (by omega) (by omega)) (ks.mv (by omega) (by omega)) w hr hq
theorem IsD.rsub {l : List Nd} {v : Value} {w : World} (h : IsD l v w) (hs : Sm l) {i : Nat} (hi : i < l.length) : Calls Tryd.prog 16 #[v, .int .i64 (i : Int)] w (DPost w (subL l i)) := by
  obtain ⟨A, c, hc, rfl, hr⟩ := h
  exact rsub_any l A c i hc hi (by have := hs.len; omega) (hs.form.okTo hi) hs.txt w hr
end Go.Proofs.YtpbadglfegcdjaaDoor
/- Ways of nothing of one node, the first that isn't right, right: walked. -/
namespace Go.Proofs.YtpbadglfegcdjaaDoor
open Go Go.RowKit
set_option linter.unusedVariables false
set_option linter.unusedSimpArgs false
set_option maxRecDepth 100000

theorem atN_take {l : List Nd} {k j : Nat} (h : j < k) : atN (l.take k) j = atN l j := by
  unfold atN
  rw [List.getD_eq_getElem?_getD, List.getD_eq_getElem?_getD, List.getElem?_take, if_pos h]
/-- Right, as the program tells it. -/
def rgB (l : List Nd) : Bool := !(fstW l).2 && formB l
theorem rgB_iff (l : List Nd) : rgB l = true ↔ Rgt l := by
  unfold rgB Rgt
  rw [Bool.and_eq_true, formB_iff, Bool.not_eq_true', fstW_right]
  exact ⟨fun h => ⟨h.2, h.1⟩, fun h => ⟨h.2, h.1⟩⟩
set_option maxHeartbeats 16000000 in
theorem nways_any (l : List Nd) (A : Option Addr) (c i : Nat) (hi : i < l.length) (hc : l.length ≤ c) (hlen : l.length ≤ 536870912) (hok : ∀ n ∈ l, IntOk n) (w : World) (hrow : NRow w A l) :
    Calls Tryd.prog 14 #[.agg #[.slice A l.length c], .int .i64 (i : Int)] w (Ans w (.int .i64 ((wyN l i : Nat) : Int))) := by
  have HB := (Below.refl w.heap.size w).alloc (Nat.le_refl _) (.cells #[.slice A l.length c] 24)
  have HS0 : Hid (FstS w A l c (w.alloc (.cells #[.slice A l.length c] 24))) := ⟨HB, hrow.later HB, Blk.new _ _ _⟩
  obtain ⟨ba, oa, rfl, -, -⟩ := hrow i hi
  have HT : Hid (∀ w', NRow w' (some ⟨ba, oa, none⟩) l → Calls Tryd.prog 21 #[.slice (some ⟨ba, oa, none⟩) (i + 1) c] w' (ToPost w' (wys l (i + 1)) (i + 1))) := fun w' h => by
    have e : (l.take (i + 1)).length = i + 1 := by rw [List.length_take]; omega
    have ht := told_any (l.take (i + 1)) (some ⟨ba, oa, none⟩) c (by omega) (fun n hn => hok n (List.mem_of_mem_take hn)) w' (h.take _)
    rw [e, wys_congr (m := l) (fun j hj => atN_take hj)] at ht
    exact ht
  obtain ⟨v, hv⟩ : ∃ v, wyN l i = v := ⟨_, rfl⟩
  have HG : Hid (∀ w' A', IRow w' A' (natI (wys l (i + 1))) → ∃ b o, A' = some ⟨b, o, none⟩ ∧ w'.cell? ⟨b, o + i, none⟩ = some (.int .i64 (v : Int))) := fun w' A' h => by
    obtain ⟨b, o, e1, -, e2⟩ := h i (by rw [natI_length, wys_length]; omega)
    rw [natI_get (by rw [wys_length]; omega), wys_get l (i + 1) i (by omega), hv] at e2
    exact ⟨b, o, e1, e2⟩
  rw [hv]
  clear hrow HB hok hv
  have hlt0 : ¬ (i : Int) < 0 := by omega
  have hge : ¬ (i : Int) ≥ (l.length : Int) := by omega
  have hiz : (i : Int) < (l.length : Int) := by omega
  have hic : (i : Int) + 1 ≤ (c : Int) := by omega
  have hi1 : (i : Int) + 1 ≤ 536870912 := by omega
  go_enter Tryd.func14, Tryd.ntmps14
  go_upto_region 1 with (fail)
  generalize w.alloc (.cells #[.slice (some ⟨ba, oa, none⟩) l.length c] 24) = w1 at *
  have e0 := HS0.out.box.cell 0
  simp at e0
  go_wp2_with fail
  refine (HT.out _ HS0.out.row).mono ?_; rintro e w2 ⟨A', c', rfl, hr, hb⟩
  have HB2 := Lib.hid (HS0.out.bel.trans (hb.mono HS0.out.bel.size))
  obtain ⟨b, o, rfl, hcl⟩ := HG.out _ _ hr
  clear hr hb HT HG HS0 e0
  go_wp2
  go_ret
  exact ⟨rfl, HB2.out⟩
def FiL (w0 : World) (A : Option Addr) (l : List Nd) (aw : Option Addr) (x : Value) (w : World) : Prop := ∃ k : Nat, k ≤ l.length ∧ x = .int .i64 (k : Int) ∧ (∀ j, j < k → badW l j = false) ∧ NRow w A l ∧ IRow w aw (natI (wys l l.length)) ∧ Below w0.heap.size w0 w
/-- The first that isn't right, as it is answered. -/
def fstV (l : List Nd) : Value := .tuple #[.int .i64 ((fstW l).1 : Int), .bool (fstW l).2]
set_option maxHeartbeats 16000000 in
theorem nfirst_any (l : List Nd) (A : Option Addr) (c : Nat) (hlen : l.length ≤ 536870912) (hok : ∀ n ∈ l, IntOk n) (w : World) (hrow : NRow w A l) :
    Calls Tryd.prog 12 #[.agg #[.slice A l.length c]] w (Ans w (fstV l)) := by
  have HB := (Below.refl w.heap.size w).alloc (Nat.le_refl _) (.cells #[.slice A l.length c] 24)
  have HS0 : Hid (FstS w A l c (w.alloc (.cells #[.slice A l.length c] 24))) := ⟨HB, hrow.later HB, Blk.new _ _ _⟩
  have HT : Hid (∀ w', NRow w' A l → Calls Tryd.prog 21 #[.slice A l.length c] w' (ToPost w' (wys l l.length) l.length)) := fun w' h => told_any l A c hlen hok w' h
  have hlz : (l.length : Int) ≤ 536870912 := by omega
  clear hrow HB hok
  go_enter Tryd.func12, Tryd.ntmps12
  go_upto_region 1 with (fail)
  generalize w.alloc (.cells #[.slice A l.length c] 24) = w1 at *
  have e0 := HS0.out.box.cell 0
  simp at e0
  go_wp2_with fail
  refine (HT.out _ HS0.out.row).mono ?_; rintro e w2 ⟨aw, cw, rfl, hr, hb⟩
  have HS2 := Lib.hid (HS0.out.later hb)
  have HI2 := Lib.hid hr
  clear hr hb HT HS0 e0
  have e0 := HS2.out.box.cell 0
  simp at e0
  go_wp2
  clear e0
  have HL : Hid (FiL w A l aw (.int .i64 0) w2) := ⟨0, Nat.zero_le _, rfl, fun j hj => absurd hj (Nat.not_lt_zero j), HS2.out.row, HI2.out, HS2.out.bel⟩
  clear HS2 HI2
  go_loopw [13] (FiL w A l aw) (fun x _ => l.length - (intOf x).toNat)
  case atStart => exact HL.out
  case round =>
    obtain ⟨k, hk, rfl, hall, hrow, hir, hbel⟩ := hrel
    have HALL := Lib.hid hall
    have HR := Lib.hid hrow
    have HI := Lib.hid hir
    have HB := Lib.hid hbel
    clear hall hrow hir hbel HL
    by_cases hlt : k < l.length
    · have hltz : (k : Int) < (l.length : Int) := by omega
      obtain ⟨ba, oa, hAe, -, -⟩ := HR.out k hlt
      subst hAe
      have g : At10 wr ba (oa + k * 10) (l.getD k nd0) := HR.out.at hlt rfl
      obtain ⟨n, hn⟩ : ∃ n, l.getD k nd0 = n := ⟨_, rfl⟩
      have HAT : Hid (atN l k = n) := hn
      rw [hn] at g
      clear hn
      have hb2 := (Below.refl wr.heap.size wr).alloc (Nat.le_refl _) (.cells (ndC n) 36)
      have HR2 := Lib.hid (HR.out.later hb2)
      have HI2 := Lib.hid (HI.out.later hb2)
      have HB2 := Lib.hid (HB.out.trans (hb2.mono HB.out.size))
      have HX2 := Lib.hid (Blk.new wr (ndC n) 36)
      clear hb2 HR HI HB
      obtain ⟨kk, na, nb, nlo, nhi, ncls, ntext⟩ := n
      unfold At10 at g
      simp only at g
      obtain ⟨g0, g1, g2, g3, g4, g5, g6, g7, g8, g9⟩ := g
      unfold ndC at HR2 HI2 HB2 HX2
      simp only at HR2 HI2 HB2 HX2
      go_upto_region 5 with (fail)
      clear g0 g1 g2 g3 g4 g5 g6 g7 g8 g9
      generalize wr.alloc (.cells #[.int .i64 kk, .int .i64 na, .int .i64 nb, .int .i64 nlo, .int .i64 nhi, .int .u64 (wd ncls 0), .int .u64 (wd ncls 1), .int .u64 (wd ncls 2), .int .u64 (wd ncls 3), .string (bs ntext)] 36) = w3 at *
      generalize wr.heap.size = bx at *
      have gg := HX2.out
      obtain ⟨g0, g1, g2, g3, g4, g5, g6, g7, g8, g9⟩ := ten_cells gg
      clear gg HX2
      by_cases h6 : kk = 6
      · subst h6
        have HP : Hid (Calls Tryd.prog 22 #[.slice aw l.length cw, .int .i64 na] w3 (Pure w3 (.int .i64 ((partS (wys l l.length) na : Nat) : Int)))) := by
          have q := npart_any (wys l l.length) na aw cw w3 HI2.out
          rw [wys_length] at q; exact q
        by_cases hz : partS (wys l l.length) na = 0
        · have HBD : Hid (badW l k = false) := by unfold Hid badW; rw [HAT.out, decide_eq_false_iff_not]; exact fun h => h.2 hz
          rw [hz] at HP
          clear hz
          go_wp2_with fail
          refine HP.out.mono ?_; rintro e w4 ⟨rfl, rfl⟩
          clear g0 g1 g2 g3 g4 g5 g6 g7 g8 g9
          have HNX : Hid (badW l k = false) := HBD.out
          go_wp2
          go_roundw
          case rel => exact ⟨k + 1, by omega, by go_num, fun j hj => (by rcases Nat.lt_or_ge j k with h | h; exact HALL.out j h; rw [show j = k by omega]; exact HNX.out), HR2.out, HI2.out, HB2.out⟩
          case measure => simp [intOf]; omega
        · have HBD : Hid (badW l k = true) := by unfold Hid badW; rw [HAT.out, decide_eq_true_iff]; exact ⟨.inl rfl, hz⟩
          have HF : Hid (fstV l = .tuple #[.int .i64 (k : Int), .bool true]) := by unfold Hid fstV; rw [fstW_some (by omega) HBD.out HALL.out]
          have hp0 : ((partS (wys l l.length) na : Nat) : Int) ≠ 0 := by omega
          generalize partS (wys l l.length) na = p at *
          have hpz : ((p : Int) != 0) = true := by rw [bne_iff_ne]; exact hp0
          clear hz hp0
          go_wp2_with fail
          refine HP.out.mono ?_; rintro e w4 ⟨rfl, rfl⟩
          clear g0 g1 g2 g3 g4 g5 g6 g7 g8 g9
          go_wp2
          go_ret2
          exact ⟨by rw [HF.out]; rfl, HB2.out⟩
      · by_cases h7 : kk = 7
        · subst h7
          clear h6
          have HP : Hid (Calls Tryd.prog 22 #[.slice aw l.length cw, .int .i64 na] w3 (Pure w3 (.int .i64 ((partS (wys l l.length) na : Nat) : Int)))) := by
            have q := npart_any (wys l l.length) na aw cw w3 HI2.out
            rw [wys_length] at q; exact q
          by_cases hz : partS (wys l l.length) na = 0
          · have HBD : Hid (badW l k = false) := by unfold Hid badW; rw [HAT.out, decide_eq_false_iff_not]; exact fun h => h.2 hz
            rw [hz] at HP
            clear hz
            go_wp2_with fail
            refine HP.out.mono ?_; rintro e w4 ⟨rfl, rfl⟩
            clear g0 g1 g2 g3 g4 g5 g6 g7 g8 g9
            have HNX : Hid (badW l k = false) := HBD.out
            go_wp2
            go_roundw
            case rel => exact ⟨k + 1, by omega, by go_num, fun j hj => (by rcases Nat.lt_or_ge j k with h | h; exact HALL.out j h; rw [show j = k by omega]; exact HNX.out), HR2.out, HI2.out, HB2.out⟩
            case measure => simp [intOf]; omega
          · have HBD : Hid (badW l k = true) := by unfold Hid badW; rw [HAT.out, decide_eq_true_iff]; exact ⟨.inr rfl, hz⟩
            have HF : Hid (fstV l = .tuple #[.int .i64 (k : Int), .bool true]) := by unfold Hid fstV; rw [fstW_some (by omega) HBD.out HALL.out]
            have hp0 : ((partS (wys l l.length) na : Nat) : Int) ≠ 0 := by omega
            generalize partS (wys l l.length) na = p at *
            have hpz : ((p : Int) != 0) = true := by rw [bne_iff_ne]; exact hp0
            clear hz hp0
            go_wp2_with fail
            refine HP.out.mono ?_; rintro e w4 ⟨rfl, rfl⟩
            clear g0 g1 g2 g3 g4 g5 g6 g7 g8 g9
            go_wp2
            go_ret2
            exact ⟨by rw [HF.out]; rfl, HB2.out⟩
        · have hk6 : (kk == 6) = false := beq_false_of_ne h6
          have hk7 : (kk == 7) = false := beq_false_of_ne h7
          have HBD : Hid (badW l k = false) := by
            unfold Hid badW; rw [HAT.out, decide_eq_false_iff_not]
            rintro ⟨h | h, _⟩
            · exact h6 h
            · exact h7 h
          clear h6 h7
          have HNX : Hid (badW l k = false) := HBD.out
          go_wp2
          go_roundw
          case rel => exact ⟨k + 1, by omega, by go_num, fun j hj => (by rcases Nat.lt_or_ge j k with h | h; exact HALL.out j h; rw [show j = k by omega]; exact HNX.out), HR2.out, HI2.out, HB2.out⟩
          case measure => simp [intOf]; omega
    · obtain rfl : k = l.length := by omega
      have hlast : ¬ ((l.length : Nat) : Int) < (l.length : Int) := by omega
      have HF : Hid (fstV l = .tuple #[.int .i64 0, .bool false]) := by unfold Hid fstV; rw [fstW_none HALL.out]; rfl
      go_wp2
      go_ret2
      exact ⟨by rw [HF.out]; rfl, HB.out⟩
set_option maxHeartbeats 16000000 in
theorem nright_any (l : List Nd) (A : Option Addr) (c : Nat) (hlen : l.length ≤ 536870912) (hok : ∀ n ∈ l, IntOk n) (htx : Txt l) (w : World) (hrow : NRow w A l) (hT : U8T w) :
    Calls Tryd.prog 9 #[.agg #[.slice A l.length c]] w (Ans w (.bool (rgB l))) := by
  have HB := (Below.refl w.heap.size w).alloc (Nat.le_refl _) (.cells #[.slice A l.length c] 24)
  have HS0 : Hid (FstS w A l c (w.alloc (.cells #[.slice A l.length c] 24))) := ⟨HB, hrow.later HB, Blk.new _ _ _⟩
  have HT0 := Lib.hid (hT.later HB)
  have CF : Hid (∀ w', NRow w' A l → Calls Tryd.prog 12 #[.agg #[.slice A l.length c]] w' (Ans w' (.tuple #[.int .i64 ((fstW l).1 : Int), .bool (fstW l).2]))) := fun w' h => nfirst_any l A c hlen hok w' h
  have CG : Hid (∀ w', NRow w' A l → U8T w' → Calls Tryd.prog 19 #[.agg #[.slice A l.length c]] w' (Ans w' (.bool (formB l)))) := fun w' h ht => form_any l A c (by omega) htx w' h ht
  have e : rgB l = (!(fstW l).2 && formB l) := rfl
  rw [e]
  clear hrow HB hok hT htx e
  generalize (fstW l).1 = p at *
  generalize (fstW l).2 = q at *
  generalize formB l = r at *
  go_enter Tryd.func9, Tryd.ntmps9
  go_upto_region 1 with (fail)
  generalize w.alloc (.cells #[.slice A l.length c] 24) = w1 at *
  have e0 := HS0.out.box.cell 0
  simp at e0
  go_wp2_with fail
  refine (CF.out _ HS0.out.row).mono ?_; rintro e w2 ⟨rfl, hb⟩
  have HS2 := Lib.hid (HS0.out.later hb)
  have HT2 := Lib.hid (HT0.out.later hb)
  clear hb e0 HS0 HT0
  have e0 := HS2.out.box.cell 0
  simp at e0
  cases q with
  | true =>
    go_wp2
    go_ret
    exact ⟨rfl, HS2.out.bel⟩
  | false =>
    go_wp2_with fail
    refine (CG.out _ HS2.out.row HT2.out).mono ?_; rintro e w3 ⟨rfl, hb⟩
    have HB3 := Lib.hid (HS2.out.bel.trans (hb.mono HS2.out.bel.size))
    clear hb e0
    go_wp2
    go_ret
    exact ⟨rfl, HB3.out⟩
end Go.Proofs.YtpbadglfegcdjaaDoor
