/- Words made strings. -/
import Derived.Test.YtgabifebcfgngaaM14
import Derived.Test.YtgabifebcfgngaaM16
import Derived.Test.YtgabifebcfgngaaM03
import Derived.Laws.BytesArg
import Derived.Lib.BufferRead
import Derived.Lib.SlBytesRow
namespace Go.Proofs.Ytgabifebcfgngaa
open Go Go.RowKit
set_option linter.unusedVariables false
set_option linter.unusedSimpArgs false

theorem conv_word {W : List UInt8} {v : Value} {w : World} (h : IsW W v w) : (convert 94 9 v).run Try.prog w = .ok (.string (bs W)) w := by
  rcases h with ⟨rfl, rfl⟩ | ⟨b, off, cap, rfl, h2, h5, h3, h4⟩
  · exact Lib.run_convert_nil_bytes w 94 9 5 0 Try.underlying94 Try.underlying5 Try.underlying9
  · refine Lib.run_convert_whole w 94 5 9 Try.underlying94 Try.underlying5 Try.underlying9 b off (bs W) (fun i hi => ?_) cap
    rw [bs_size] at hi
    rw [h4 i hi, bs_get]
    congr 3
    rw [List.getD_eq_getElem?_getD, List.getElem?_eq_getElem hi]; rfl
end Go.Proofs.Ytgabifebcfgngaa
/- Keys: walked. -/
namespace Go.Proofs.Ytgabifebcfgngaa
open Go Go.RowKit
set_option linter.unusedVariables false
set_option linter.unusedSimpArgs false
set_option maxRecDepth 100000
set_option maxHeartbeats 16000000

theorem wpList_make_u8 {w : World} {ops : Array Oper} {rest : List Oper} {o : Oper} {a : Act} {Q : Exit → Act → World → Prop} (hgd : o.guard = none) (l c : Operand) (hop : o.op = Op.makeSlice 94 l c)
    (C : Int) (n : Nat) (hl : a.eval l = .int .i64 0) (hc : a.eval c = .int .i64 C) (hC : C = (n : Int)) (hn : n ≤ 1073741824)
    (hK : ∀ w', Own8 w' w.heap.size (.slice (some ⟨w.heap.size, 0, none⟩) 0 n) [] → Below w.heap.size w w' → wpList Try.prog ops Q rest (a.put o.dst (.slice (some ⟨w.heap.size, 0, none⟩) 0 n)) w') : wpList Try.prog ops Q (o :: rest) a w := by
  obtain ⟨ib, hib, hz0, hz1, hz2⟩ := info_parts infoU8
  exact wpList_make_own w hgd l c 94 hop w.heap.size 5 ib _ 1 Try.underlying94 hib hz0 hz1 .i64 .i64 C n hl hc hC (by rw [hz2]; omega) (by unfold maxLen; omega) (Nat.le_refl _)
    fun w' h1 h2 => hK w' h1 ⟨h2.os, h2.tape, h2.output, h2.size, fun k hk => h2.block k hk (by simp)⟩
theorem keyI_nil : keyI [] = [] := rfl
theorem keyI_len : ∀ (l : List Int), (∀ n ∈ l, -9223372036854775808 ≤ n ∧ n ≤ 9223372036854775807) → (keyI l).length ≤ l.length * 11
  | [], _ => Nat.le_refl _
  | n :: l, h => by
    have ih := keyI_len l fun m hm => h m (List.mem_cons_of_mem _ hm)
    have hn := h n List.mem_cons_self
    have h3 := numB_len (r := zig n) (by have := zig_lt hn.1 hn.2; omega)
    show (bytN (numB (zig n) ++ keyN l)).length ≤ _
    unfold bytN
    rw [List.length_map, List.length_append, List.length_cons]
    have : (keyI l).length = (keyN l).length := by unfold keyI bytN; rw [List.length_map]
    omega
theorem itsL_ok : ∀ {l : List Itm}, ItOk l → ∀ n ∈ itsL l, -9223372036854775808 ≤ n ∧ n ≤ 9223372036854775807
  | [], _, n, hn => by cases hn
  | x :: l, h, n, hn => by
    rcases List.mem_append.1 hn with hn | hn
    · have := h x List.mem_cons_self
      simp only [itL, List.mem_cons, List.not_mem_nil, or_false] at hn
      rcases hn with rfl | rfl | rfl | rfl
      · exact this.1
      · exact this.2.1
      · exact this.2.2.1
      · exact this.2.2.2
    · exact itsL_ok (fun y hy => h y (List.mem_cons_of_mem _ hy)) n hn
theorem ItOk.take {l : List Itm} (h : ItOk l) (k : Nat) : ItOk (l.take k) := fun x hx => h x (List.mem_of_mem_take hx)
structure KyS (w0 : World) (A : Option Addr) (l : List Itm) (V : List UInt8) (v : Value) (w : World) : Prop where
  s : AnbS w0 w0.heap.size V v w
  row : ItRow w A l
def KyL (w0 : World) (A : Option Addr) (l : List Itm) (v i : Value) (w : World) : Prop := ∃ k : Nat, k ≤ l.length ∧ i = .int .i64 (k : Int) ∧ KyS w0 A l (stK (l.take k)) v w
def KyJ (w0 : World) (A : Option Addr) (l : List Itm) (k : Nat) (x : Itm) (v j : Value) (w : World) : Prop := ∃ q : Nat, q ≤ 4 ∧ j = .int .i64 (q : Int) ∧ KyS w0 A l (stK (l.take k) ++ keyI ((itL x).take q)) v w
def KyP (w0 : World) (l : List Itm) (e : Ending) (w : World) : Prop := e = .returned (.string (bs (stK l))) ∧ Below w0.heap.size w0 w
theorem AnbS.later {w0 w w' : World} {B : Nat} {W : List UInt8} {v : Value} (h : AnbS w0 B W v w) (hb : Below w.heap.size w w') : AnbS w0 B W v w' := ⟨h.bel.trans (hb.mono h.low), Nat.le_trans h.low hb.size, h.own.later hb⟩
theorem AnbS.go {w0 w w' : World} {B : Nat} {W V : List UInt8} {v u : Value} (h : AnbS w0 B W v w) (k : AnbS w B V u w') : AnbS w0 B V u w' := ⟨h.bel.trans k.bel, k.low, k.own⟩
theorem key_pre {l : List Itm} (hI : ItOk l) {k q : Nat} (hl : l.length ≤ 1000) (hk : k < l.length) : (stK (l.take k) ++ keyI ((itL (l.getD k it0)).take q)).length ≤ 1073600000 := by
  rw [List.length_append]
  have h1 := keyI_len (itsL (l.take k)) (itsL_ok (hI.take k))
  have h2 := keyI_len ((itL (l.getD k it0)).take q) fun n hn => by
    have := hI.at_ hk
    have hn := List.mem_of_mem_take hn
    simp only [itL, List.mem_cons, List.not_mem_nil, or_false] at hn
    rcases hn with rfl | rfl | rfl | rfl
    · exact this.1
    · exact this.2.1
    · exact this.2.2.1
    · exact this.2.2.2
  rw [itsL_length, List.length_take] at h1
  have h3 : ((itL (l.getD k it0)).take q).length ≤ 4 := by rw [List.length_take]; exact Nat.min_le_right _ _
  show (keyI (itsL (l.take k))).length + _ ≤ _
  omega
theorem key_next {l : List Itm} {k : Nat} (hk : k < l.length) : stK (l.take (k + 1)) = stK (l.take k) ++ keyI (itL (l.getD k it0)) := by
  rw [take_it hk]; unfold stK; rw [itsL_append, keyI_append]
  congr 2
theorem key_step {V : List UInt8} {L : List Int} {q : Nat} (hq : q < L.length) : V ++ keyI (L.take (q + 1)) = (V ++ keyI (L.take q)) ++ bytN (numB (zig (L.getD q 0))) := by
  rw [List.take_succ_eq_append_getElem hq, keyI_snoc, List.append_assoc, List.getD_eq_getElem?_getD, List.getElem?_eq_getElem hq]; rfl
theorem itL_ok {x : Itm} (h : (-9223372036854775808 ≤ x.kind ∧ x.kind ≤ 9223372036854775807) ∧ (-9223372036854775808 ≤ x.node ∧ x.node ≤ 9223372036854775807) ∧ (-9223372036854775808 ≤ x.lo ∧ x.lo ≤ 9223372036854775807) ∧ (-9223372036854775808 ≤ x.hi ∧ x.hi ≤ 9223372036854775807)) {q : Nat} (hq : q < 4) : -9223372036854775808 ≤ (itL x).getD q 0 ∧ (itL x).getD q 0 ≤ 9223372036854775807 := by
  have : q = 0 ∨ q = 1 ∨ q = 2 ∨ q = 3 := by omega
  rcases this with rfl | rfl | rfl | rfl
  · exact h.1
  · exact h.2.1
  · exact h.2.2.1
  · exact h.2.2.2
theorem ikey_any (l : List Itm) (A : Option Addr) (c : Nat) (hl : l.length ≤ 1000) (hI : ItOk l) (w : World) (hrow : ItRow w A l) :
    Calls Try.prog 42 #[.slice A l.length c] w (KyP w l) := by
  have HI := Lib.hid hI
  have HRW := Lib.hid hrow
  have HA : Hid (∀ b o, A = some ⟨b, o, none⟩ → l ≠ [] → b < w.heap.size) := fun b o e hne => by
    obtain ⟨b', o', e', h, -⟩ := hrow 0 (List.length_pos_iff.2 hne)
    rw [e] at e'; cases e'; exact h
  have HKL : Hid ((stK l).length ≤ 11 * 4 * 1000) := by
    have h1 := keyI_len (itsL l) (itsL_ok hI)
    rw [itsL_length] at h1
    show (keyI (itsL l)).length ≤ _
    omega
  clear hI hrow
  go_enter Try.func42, Try.ntmps42
  go_upto_region 1 with (fail)
  go_upto_region 2 with (refine wpList_make_u8 rfl _ _ rfl _ (6 * l.length) rfl rfl (by omega) (by omega) ?_; intro w1 ho1 hb1; have HO1 := Lib.hid ho1; have HB1 := Lib.hid hb1; clear ho1 hb1)
  have HS0 : Hid (KyS w A l (stK (l.take 0)) (.slice (some ⟨w.heap.size, 0, none⟩) 0 (6 * l.length)) w1) := ⟨⟨HB1.out, HB1.out.size, HO1.out⟩, HRW.out.later HB1.out⟩
  clear HO1 HB1 HRW
  go_wp2
  go_loopw [3, 14] (KyL w A l) (fun _ i _ => l.length - (intOf i).toNat)
  case atStart => exact ⟨0, Nat.zero_le _, rfl, HS0.out⟩
  case round =>
    obtain ⟨k, hk, rfl, hs⟩ := hrel
    have HS := Lib.hid hs
    by_cases hlt : k < l.length
    · have hltz : (k : Int) < (l.length : Int) := by omega
      obtain ⟨ba, oa, rfl, hba, xa⟩ := hs.row.four hlt
      have HOK := Lib.hid (HI.out.at_ hlt)
      have HPR := Lib.hid (fun q => key_pre (q := q) HI.out hl hlt)
      have HNX := Lib.hid (key_next hlt)
      clear hs
      generalize l.getD k it0 = x at *
      unfold At4 at xa
      obtain ⟨x0, x1, x2, x3⟩ := xa
      go_upto_region 5 with (fail)
      have hb1 := (Below.refl wr.heap.size wr).alloc (Nat.le_refl _) (.cells #[.int .i64 x.kind, .int .i64 x.node, .int .i64 x.lo, .int .i64 x.hi] 43)
      have HS1 := Lib.hid (show KyJ w (some ⟨ba, oa, none⟩) l k x _ (.int .i64 0) _ from ⟨0, by omega, rfl, by rw [show (itL x).take 0 = [] from rfl, keyI_nil, List.append_nil]; exact ⟨HS.out.s.later hb1, HS.out.row.later hb1⟩⟩)
      have HX1 := Lib.hid (Blk.new wr #[.int .i64 x.kind, .int .i64 x.node, .int .i64 x.lo, .int .i64 x.hi] 43)
      have HLT := Lib.hid hlt
      clear hb1 x0 x1 x2 x3 HS hlt
      generalize wr.alloc (.cells #[.int .i64 x.kind, .int .i64 x.node, .int .i64 x.lo, .int .i64 x.hi] 43) = w2 at HS1 HX1 ⊢
      have x0 := HX1.out.cell 0
      have x1 := HX1.out.cell 1
      have x2 := HX1.out.cell 2
      have x3 := HX1.out.cell 3
      simp at x0 x1 x2 x3
      go_wp2
      clear x0 x1 x2 x3 HX1
      go_loopw [3, 27] (KyJ w (some ⟨ba, oa, none⟩) l k x) (fun _ j _ => 4 - (intOf j).toNat)
      case atStart => exact HS1.out
      case round =>
        obtain ⟨q, hq, rfl, hs⟩ := hrel
        have HS := Lib.hid hs
        clear hs
        by_cases hq4 : q < 4
        · have HC := Lib.hid (anum_any _ _ w.heap.size ((itL x).getD q 0) (itL_ok HOK.out hq4).1 (itL_ok HOK.out hq4).2 (HPR.out q) _ HS.out.s.own HS.out.s.low)
          have HN := Lib.hid (key_step (V := stK (l.take k)) (L := itL x) (q := q) hq4)
          have h4 : q = 0 ∨ q = 1 ∨ q = 2 ∨ q = 3 := by omega
          rcases h4 with rfl | rfl | rfl | rfl
          ·
            have hix : ∀ w, (Instr.index 95 (.agg #[.int .i64 x.kind, .int .i64 x.node, .int .i64 x.lo, .int .i64 x.hi]) (.int .i64 0)).run Try.prog w = .ok (.int .i64 x.kind) w := fun w => by kernel_rfl
            have HC2 := Lib.hid (show Calls Try.prog 53 #[_, .int .i64 x.kind] _ _ from HC.out)
            clear HC
            go_wp2_with fail
            refine HC2.out.mono ?_; rintro e w3 ⟨v3, rfl, hs3⟩
            have HS3 : Hid (KyS w (some ⟨ba, oa, none⟩) l (stK (l.take k) ++ keyI ((itL x).take (0 + 1))) v3 w3) := by
              unfold Hid; rw [HN.out]
              exact ⟨HS.out.s.go hs3, HS.out.row.below (fun b o e => HA.out b o e (fun h => by have := HLT.out; rw [h] at this; simp at this)) hs3.bel⟩
            clear hs3
            go_wp2
            go_roundw
            case rel => exact ⟨0 + 1, by omega, by go_num, HS3.out⟩
            case measure => simp [intOf]
          ·
            have hix : ∀ w, (Instr.index 95 (.agg #[.int .i64 x.kind, .int .i64 x.node, .int .i64 x.lo, .int .i64 x.hi]) (.int .i64 1)).run Try.prog w = .ok (.int .i64 x.node) w := fun w => by kernel_rfl
            have HC2 := Lib.hid (show Calls Try.prog 53 #[_, .int .i64 x.node] _ _ from HC.out)
            clear HC
            go_wp2_with fail
            refine HC2.out.mono ?_; rintro e w3 ⟨v3, rfl, hs3⟩
            have HS3 : Hid (KyS w (some ⟨ba, oa, none⟩) l (stK (l.take k) ++ keyI ((itL x).take (1 + 1))) v3 w3) := by
              unfold Hid; rw [HN.out]
              exact ⟨HS.out.s.go hs3, HS.out.row.below (fun b o e => HA.out b o e (fun h => by have := HLT.out; rw [h] at this; simp at this)) hs3.bel⟩
            clear hs3
            go_wp2
            go_roundw
            case rel => exact ⟨1 + 1, by omega, by go_num, HS3.out⟩
            case measure => simp [intOf]
          ·
            have hix : ∀ w, (Instr.index 95 (.agg #[.int .i64 x.kind, .int .i64 x.node, .int .i64 x.lo, .int .i64 x.hi]) (.int .i64 2)).run Try.prog w = .ok (.int .i64 x.lo) w := fun w => by kernel_rfl
            have HC2 := Lib.hid (show Calls Try.prog 53 #[_, .int .i64 x.lo] _ _ from HC.out)
            clear HC
            go_wp2_with fail
            refine HC2.out.mono ?_; rintro e w3 ⟨v3, rfl, hs3⟩
            have HS3 : Hid (KyS w (some ⟨ba, oa, none⟩) l (stK (l.take k) ++ keyI ((itL x).take (2 + 1))) v3 w3) := by
              unfold Hid; rw [HN.out]
              exact ⟨HS.out.s.go hs3, HS.out.row.below (fun b o e => HA.out b o e (fun h => by have := HLT.out; rw [h] at this; simp at this)) hs3.bel⟩
            clear hs3
            go_wp2
            go_roundw
            case rel => exact ⟨2 + 1, by omega, by go_num, HS3.out⟩
            case measure => simp [intOf]
          ·
            have hix : ∀ w, (Instr.index 95 (.agg #[.int .i64 x.kind, .int .i64 x.node, .int .i64 x.lo, .int .i64 x.hi]) (.int .i64 3)).run Try.prog w = .ok (.int .i64 x.hi) w := fun w => by kernel_rfl
            have HC2 := Lib.hid (show Calls Try.prog 53 #[_, .int .i64 x.hi] _ _ from HC.out)
            clear HC
            go_wp2_with fail
            refine HC2.out.mono ?_; rintro e w3 ⟨v3, rfl, hs3⟩
            have HS3 : Hid (KyS w (some ⟨ba, oa, none⟩) l (stK (l.take k) ++ keyI ((itL x).take (3 + 1))) v3 w3) := by
              unfold Hid; rw [HN.out]
              exact ⟨HS.out.s.go hs3, HS.out.row.below (fun b o e => HA.out b o e (fun h => by have := HLT.out; rw [h] at this; simp at this)) hs3.bel⟩
            clear hs3
            go_wp2
            go_roundw
            case rel => exact ⟨3 + 1, by omega, by go_num, HS3.out⟩
            case measure => simp [intOf]
        · obtain rfl : q = 4 := by omega
          have HS9 := HS.out
          rw [show (itL x).take 4 = itL x from rfl, ← HNX.out] at HS9
          have HS9 := Lib.hid HS9
          clear HS
          go_wp2
          go_roundw
          case rel => exact ⟨k + 1, HLT.out, by go_num, HS9.out⟩
          case measure => have := HLT.out; simp [intOf] <;> omega
    · obtain rfl : k = l.length := by omega
      have hltz : ¬ ((l.length : Nat) : Int) < (l.length : Int) := by omega
      have HO := hs.s.own
      rw [List.take_length] at HO
      have hcv := conv_word (own_isW HO (by have := HKL.out; omega))
      have HB := Lib.hid hs.s.bel
      clear hs HO
      go_wp2
      go_ret
      exact ⟨rfl, HB.out⟩
end Go.Proofs.Ytgabifebcfgngaa
/- Tokens of a text: what follows for whole texts. -/
namespace Go.Proofs.Ytgabifebcfgngaa
open Go
set_option linter.unusedVariables false

/-- What a read text is. -/
structure Whole (l : List UInt8) (p k : Nat) (r : List Tok) : Prop where
  ne : r ≠ []
  last : r.getLast? = some { kind := 10, at_ := p + l.length }
  low : ∀ t ∈ r, p + k ≤ t.at_
  kinds : ∀ t ∈ r.dropLast, 1 ≤ t.kind ∧ t.kind ≤ 9 ∧ t.at_ < p + l.length ∧ l.getD (t.at_ - p) 0 ≠ 32
  rise : r.Pairwise (fun a b => a.at_ < b.at_)
  gap : ∀ t, r.head? = some t → ∀ i, k ≤ i → p + i < t.at_ → l.getD i 0 = 32
end Go.Proofs.Ytgabifebcfgngaa
/- The document's way of reading tokens: the plain mathematics. -/
namespace Go.Proofs.Ytgabifebcfgngaa
open Go
set_option linter.unusedVariables false
set_option linter.unusedSimpArgs false

/-- Is there a byte at a place, from one to another one? -/
def inBy (l : List UInt8) (i a b : Nat) : Bool := match l[i]? with
  | none => false
  | some c => decide (a ≤ c.toNat) && decide (c.toNat ≤ b)
/-- How many bytes a rune has. -/
def nextU (l : List UInt8) (i : Nat) : Option Nat :=
  let c := (l.getD i 0).toNat
  if c < 128 then some 1
  else if (194 ≤ c ∧ c ≤ 223) ∧ inBy l (i + 1) 128 191 = true then some 2
  else if c = 224 ∧ inBy l (i + 1) 160 191 = true ∧ inBy l (i + 2) 128 191 = true then some 3
  else if ((225 ≤ c ∧ c ≤ 236) ∨ c = 238 ∨ c = 239) ∧ inBy l (i + 1) 128 191 = true ∧ inBy l (i + 2) 128 191 = true then some 3
  else if c = 237 ∧ inBy l (i + 1) 128 159 = true ∧ inBy l (i + 2) 128 191 = true then some 3
  else if c = 240 ∧ inBy l (i + 1) 144 191 = true ∧ inBy l (i + 2) 128 191 = true ∧ inBy l (i + 3) 128 191 = true then some 4
  else if (241 ≤ c ∧ c ≤ 243) ∧ inBy l (i + 1) 128 191 = true ∧ inBy l (i + 2) 128 191 = true ∧ inBy l (i + 3) 128 191 = true then some 4
  else if c = 244 ∧ inBy l (i + 1) 128 143 = true ∧ inBy l (i + 2) 128 191 = true ∧ inBy l (i + 3) 128 191 = true then some 4
  else none
theorem inB_drop (l : List UInt8) (i k a b : Nat) : inBy l (i + k) a b = inBy (l.drop i) k a b := by unfold inBy; rw [List.getElem?_drop]
theorem nextU_drop (l : List UInt8) (i : Nat) : nextU l i = nextU (l.drop i) 0 := by
  unfold nextU
  simp only [inB_drop l i, Nat.zero_add, List.getD_eq_getElem?_getD, List.getElem?_drop, Nat.add_zero]
theorem inB_cons (c : UInt8) (l : List UInt8) (i a b : Nat) : inBy (c :: l) (i + 1) a b = inBy l i a b := id rfl
theorem inB_head (c : UInt8) (l : List UInt8) (a b : Nat) : inBy (c :: l) 0 a b = tailB a b c := id rfl
theorem inB_nil (i a b : Nat) : inBy [] i a b = false := id rfl
set_option maxHeartbeats 4000000 in
theorem utf8_next0 (c : UInt8) (l : List UInt8) : utf8L (c :: l) = match nextU (c :: l) 0 with
    | none => false
    | some k => utf8L ((c :: l).drop k) := by
  unfold nextU
  simp only [Nat.zero_add, inB_cons, show (c :: l).getD 0 0 = c from rfl]
  conv => lhs; unfold utf8L
  by_cases h1 : c.toNat < 128
  · simp [h1]
  by_cases h2 : 194 ≤ c.toNat ∧ c.toNat ≤ 223
  · have g1 : ¬ c.toNat = 224 := by omega
    have g2 : ¬ (225 ≤ c.toNat ∧ c.toNat ≤ 236 ∨ c.toNat = 238 ∨ c.toNat = 239) := by omega
    have g3 : ¬ c.toNat = 237 := by omega
    have g4 : ¬ c.toNat = 240 := by omega
    have g5 : ¬ (241 ≤ c.toNat ∧ c.toNat ≤ 243) := by omega
    have g6 : ¬ c.toNat = 244 := by omega
    simp only [h1, h2, g1, g2, g3, g4, g5, g6, if_false, if_true, false_and, true_and, and_self]
    cases l with
    | nil => simp [inB_nil]
    | cons b l => simp only [inB_head]; cases tailB 128 191 b <;> simp
  by_cases h3 : c.toNat = 224
  · have g2 : ¬ (225 ≤ c.toNat ∧ c.toNat ≤ 236 ∨ c.toNat = 238 ∨ c.toNat = 239) := by omega
    have g3 : ¬ c.toNat = 237 := by omega
    have g4 : ¬ c.toNat = 240 := by omega
    have g5 : ¬ (241 ≤ c.toNat ∧ c.toNat ≤ 243) := by omega
    have g6 : ¬ c.toNat = 244 := by omega
    rw [h3] at h1 h2 g2 g3 g4 g5 g6
    simp only [h3, h1, h2, g2, g3, g4, g5, g6, if_false, if_true, false_and, true_and, and_self]
    cases l with
    | nil => simp [inB_nil]
    | cons b l => cases l with
      | nil => simp [inB_nil, inB_cons]
      | cons d l => simp only [inB_head, inB_cons]; cases tailB 160 191 b <;> cases tailB 128 191 d <;> simp
  by_cases h4 : c.toNat = 237
  · have g2 : ¬ (225 ≤ c.toNat ∧ c.toNat ≤ 236 ∨ c.toNat = 238 ∨ c.toNat = 239) := by omega
    have g4 : ¬ c.toNat = 240 := by omega
    have g5 : ¬ (241 ≤ c.toNat ∧ c.toNat ≤ 243) := by omega
    have g6 : ¬ c.toNat = 244 := by omega
    rw [h4] at h1 h2 h3 g2 g4 g5 g6
    simp only [h4, h1, h2, h3, g2, g4, g5, g6, if_false, if_true, false_and, true_and, and_self]
    cases l with
    | nil => simp [inB_nil]
    | cons b l => cases l with
      | nil => simp [inB_nil, inB_cons]
      | cons d l => simp only [inB_head, inB_cons]; cases tailB 128 159 b <;> cases tailB 128 191 d <;> simp
  by_cases h5 : 225 ≤ c.toNat ∧ c.toNat ≤ 239
  · have g2 : (225 ≤ c.toNat ∧ c.toNat ≤ 236 ∨ c.toNat = 238 ∨ c.toNat = 239) := by omega
    have g4 : ¬ c.toNat = 240 := by omega
    have g5 : ¬ (241 ≤ c.toNat ∧ c.toNat ≤ 243) := by omega
    have g6 : ¬ c.toNat = 244 := by omega
    simp only [h4, h1, h2, h3, h5, g2, g4, g5, g6, if_false, if_true, false_and, true_and, and_self]
    cases l with
    | nil => simp [inB_nil]
    | cons b l => cases l with
      | nil => simp [inB_nil, inB_cons]
      | cons d l => simp only [inB_head, inB_cons]; cases tailB 128 191 b <;> cases tailB 128 191 d <;> simp [show c.toNat ≤ 236 ∨ c.toNat = 238 ∨ c.toNat = 239 by omega]
  have g2 : ¬ (225 ≤ c.toNat ∧ c.toNat ≤ 236 ∨ c.toNat = 238 ∨ c.toNat = 239) := by omega
  by_cases h7 : c.toNat = 240
  · have g5 : ¬ (241 ≤ c.toNat ∧ c.toNat ≤ 243) := by omega
    have g6 : ¬ c.toNat = 244 := by omega
    rw [h7] at h1 h2 h3 h4 h5 g2 g5 g6
    simp only [h7, h4, h1, h2, h3, h5, g2, g5, g6, if_false, if_true, false_and, true_and, and_self]
    cases l with
    | nil => simp [inB_nil]
    | cons b l => cases l with
      | nil => simp [inB_nil, inB_cons]
      | cons d l => cases l with
        | nil => simp [inB_nil, inB_cons]
        | cons e l => simp only [inB_head, inB_cons]; cases tailB 144 191 b <;> cases tailB 128 191 d <;> cases tailB 128 191 e <;> simp
  by_cases h8 : 241 ≤ c.toNat ∧ c.toNat ≤ 243
  · have g6 : ¬ c.toNat = 244 := by omega
    simp only [h7, h8, h4, h1, h2, h3, h5, g2, g6, if_false, if_true, false_and, true_and, and_self]
    cases l with
    | nil => simp [inB_nil]
    | cons b l => cases l with
      | nil => simp [inB_nil, inB_cons]
      | cons d l => cases l with
        | nil => simp [inB_nil, inB_cons]
        | cons e l => simp only [inB_head, inB_cons]; cases tailB 128 191 b <;> cases tailB 128 191 d <;> cases tailB 128 191 e <;> simp
  by_cases h9 : c.toNat = 244
  · rw [h9] at h1 h2 h3 h4 h5 h7 h8 g2
    simp only [h9, h7, h8, h4, h1, h2, h3, h5, g2, if_false, if_true, false_and, true_and, and_self]
    cases l with
    | nil => simp [inB_nil]
    | cons b l => cases l with
      | nil => simp [inB_nil, inB_cons]
      | cons d l => cases l with
        | nil => simp [inB_nil, inB_cons]
        | cons e l => simp only [inB_head, inB_cons]; cases tailB 128 143 b <;> cases tailB 128 191 d <;> cases tailB 128 191 e <;> simp
  simp only [h9, h7, h8, h4, h1, h2, h3, h5, g2, if_false, if_true, false_and, true_and, and_self]
  cases l with
  | nil => rfl
  | cons b l => cases l with
    | nil => rfl
    | cons d l => cases l with
      | nil => rfl
      | cons e l => rfl
theorem utf8_next {l : List UInt8} {i : Nat} (h : i < l.length) : utf8L (l.drop i) = match nextU l i with
    | none => false
    | some k => utf8L (l.drop (i + k)) := by
  rw [nextU_drop, List.drop_eq_getElem_cons h, utf8_next0, ← List.drop_eq_getElem_cons h]
  cases nextU (l.drop i) 0 with
  | none => rfl
  | some k => simp only; rw [List.drop_drop]
theorem inB_lt {l : List UInt8} {i a b : Nat} (h : inBy l i a b = true) : i < l.length := by
  unfold inBy at h
  cases hc : l[i]? with
  | none => rw [hc] at h; cases h
  | some c => exact (List.getElem?_eq_some_iff.1 hc).1
theorem nextU_le {l : List UInt8} {i k : Nat} (hi : i < l.length) (h : nextU l i = some k) : 0 < k ∧ i + k ≤ l.length := by
  unfold nextU at h
  simp only at h
  split at h
  · cases h; omega
  · repeat' (split at h)
    all_goals first
      | (cases h; rename_i hh; have := inB_lt hh.2; omega)
      | (cases h; rename_i hh; have := inB_lt hh.2.2; omega)
      | (cases h; rename_i hh; have := inB_lt hh.2.2.2; omega)
      | cases h
end Go.Proofs.Ytgabifebcfgngaa
