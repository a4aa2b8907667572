/- The statement ParseDeep of layer 5, walked. -/
import Derived.Test.YtencdlcpnbdlbaaM41
import Derived.Test.YtencdlcpnbdlbaaM42
namespace Go.Proofs.Ytencdlcpnbdlbaa
open Go Go.RowKit
set_option linter.unusedVariables false
set_option linter.unusedSimpArgs false

theorem tkC_plain (k a : Int) : tkC { kind := k, at_ := a } = #[.int .i64 k, .int .i64 a, .int .u64 0, .int .u64 0, .int .u64 0, .int .u64 0, .string ⟨#[]⟩, .int .i64 0, .int .i64 0] := by kernel_rfl
/-- A row of tokens that the statement makes. -/
structure PdS (w0 : World) (base : Nat) (bd : Nat) (dv : Array Value) (ob : Nat) (v : Value) (D : List Tk) (w : World) : Prop where
  bel : Below w0.heap.size w0 w
  x1 : Blk w bd dv 27
  one : ∀ j, j < 9 → w.cell? ⟨ob, j, none⟩ = (tkC byT)[j]?
  own : OwnK w base v D
  lo : w0.heap.size ≤ base ∧ bd < base ∧ ob < base ∧ base ≤ w.heap.size
theorem PdS.grow {w0 w w' : World} {base bd : Nat} {dv : Array Value} {ob : Nat} {v v' : Value} {D D' : List Tk} (h : PdS w0 base bd dv ob v D w) (hb : Below base w w') (ho : OwnK w' base v' D') : PdS w0 base bd dv ob v' D' w' :=
  ⟨h.bel.trans (hb.mono h.lo.1), (hb.block bd h.lo.2.1).trans h.x1, fun j hj => (hb.cell (p := ⟨ob, j, none⟩) h.lo.2.2.1).trans (h.one j hj), ho, h.lo.1, h.lo.2.1, h.lo.2.2.1, Nat.le_trans h.lo.2.2.2 hb.size⟩
theorem PdS.later {w0 w w' : World} {base bd : Nat} {dv : Array Value} {ob : Nat} {v : Value} {D : List Tk} (h : PdS w0 base bd dv ob v D w) (hb : Below w.heap.size w w') : PdS w0 base bd dv ob v D w' := h.grow (hb.mono h.lo.2.2.2) (h.own.later hb)
def PdO (w0 : World) (base bd : Nat) (dv : Array Value) (ob : Nat) (M : Nat) (v iv : Value) (w : World) : Prop := ∃ k : Nat, k ≤ M ∧ iv = .int .i64 (k : Int) ∧ PdS w0 base bd dv ob v (opL k) w
def PdC (w0 : World) (base bd : Nat) (dv : Array Value) (ob : Nat) (M : Nat) (v iv : Value) (w : World) : Prop := ∃ k : Nat, k ≤ M ∧ iv = .int .i64 (k : Int) ∧ PdS w0 base bd dv ob v ((opL M ++ [byT]) ++ List.replicate k clT) w
set_option maxHeartbeats 16000000 in
set_option maxRecDepth 100000 in
theorem parseDeep_any (l : List Tk) (A : Option Addr) (c : Nat) (hl : l.length ≤ 9223372036854775807) (n : Nat) (hn : n < 256) (w : World) (hrow : TkRow w A l) : Calls Try.prog 6 #[.slice A l.length c, .int .u8 (n : Int)] w (Ans w (.bool true)) := by
  have AW : Hid (∀ w, Calls Try.prog 7 #[] w (Ans w (.bool true))) := awake5_any
  have MY : Hid (∀ w, TkRow w A l → Calls Try.prog 8 #[.slice A l.length c] w (MayPost l w)) := fun w h => may_any l A c hl w h
  have HR := Lib.hid hrow
  clear hrow
  go_enter Try.func6, Try.ntmps6
  go_wp2_with fail
  refine (AW.out w).mono ?_; rintro e1 w1 ⟨rfl, hb1⟩
  have HB1 := Lib.hid hb1
  have HR1 := Lib.hid (HR.out.later hb1)
  clear hb1 HR
  go_wp2_with fail
  refine (MY.out w1 HR1.out).mono ?_; intro e2 w2 hp
  obtain ⟨b, rfl, hmay, hb2⟩ := hp
  have HB2 := Lib.hid (HB1.out.trans (hb2.mono HB1.out.size))
  have HR2 := Lib.hid (HR1.out.later hb2)
  have HM := Lib.hid hmay
  clear hb2 HR1 HB1 hmay MY
  cases b with
  | false =>
    go_wp2_with fail
    refine (AW.out w2).mono ?_; rintro e3 w3 ⟨rfl, hb3⟩
    have HB3 := Lib.hid (HB2.out.trans (hb3.mono HB2.out.size))
    clear hb3
    go_wp2
    go_ret
    exact ⟨rfl, HB3.out⟩
  | true =>
    have HM2 := Lib.hid (HM.out rfl)
    clear HM AW
    have hfew := HM2.out.few
    have PC := Lib.hid (HM2.out.parse A c w2 HR2.out)
    have DC : Hid (∀ w, TkRow w A l → Calls Try.prog 16 #[.slice A l.length c] w (DpPost l w)) := fun w h => deep_any l A c (by omega) w h
    obtain ⟨r, hr⟩ : ∃ r, parseP l = r := ⟨_, rfl⟩
    rw [hr] at PC
    have HP := Lib.hid hr
    clear hr
    go_wp2_with fail
    refine PC.out.mono ?_; intro e3 w3 hq
    clear PC
    cases r with
    | out => exact absurd hq id
    | bad er p =>
      obtain ⟨rfl, hb3⟩ := hq
      have hne : (er != 0) = true := by rw [bne_iff_ne]; have := parse_err HP.out; omega
      have hnz : (er == 0) = false := beq_false_of_ne (by have := parse_err HP.out; omega)
      have HDP : Hid (er = 8 → ∃ i, i < l.length ∧ 64 < cntO l 0 (i + 1)) := fun h => by have q := HP.out; rw [h] at q; exact parse_deep q
      have hbb := (Below.refl w3.heap.size w3).alloc (Nat.le_refl _) (.cells #[.slice none 0 0] 27)
      have HB4 := Lib.hid ((HB2.out.trans (hb3.mono HB2.out.size)).trans (hbb.mono (HB2.out.trans (hb3.mono HB2.out.size)).size))
      have HR4 := Lib.hid ((HR2.out.later hb3).later hbb)
      clear hb3 hbb HB2 HR2 HP
      go_upto_region 4 with (fail)
      generalize w3.alloc (.cells #[.slice none 0 0] 27) = w4 at *
      generalize w3.heap.size = bd at *
      go_wp2_with fail
      refine (DC.out w4 HR4.out).mono ?_; intro e5 w5 hp
      obtain ⟨dp, db, rfl, hb5, hd0, hd1⟩ := hp
      have HB5 := Lib.hid (HB4.out.trans (hb5.mono HB4.out.size))
      have HD0 : Hid (er = 8 → db = true) := fun h => by
        obtain ⟨i, h1, h2⟩ := HDP.out h
        cases db with
        | true => rfl
        | false => have := hd0 rfl i h1; omega
      have HD1 : Hid (db = true → 0 ≤ dp) := fun h => by
        obtain ⟨i, h1, _, h3⟩ := hd1 h
        rw [h3]; exact (HM2.out.all i h1).2.2.2.1
      clear hb5 hd0 hd1 HB4 HR4 DC HDP HM2
      by_cases h8 : er = 8
      · have e8 : (er == 8) = true := by rw [h8]; rfl
        obtain rfl := HD0.out h8
        have hdp : ¬ dp < 0 := by have := HD1.out rfl; omega
        clear h8
        go_wp2
        go_ret
        exact ⟨rfl, HB5.out⟩
      · have e8 : (er == 8) = false := beq_false_of_ne h8
        clear h8
        cases db with
        | true =>
          have hdp : ¬ dp < 0 := by have := HD1.out rfl; omega
          go_wp2
          go_ret
          exact ⟨rfl, HB5.out⟩
        | false =>
          go_wp2
          go_ret
          exact ⟨rfl, HB5.out⟩
    | ok k t =>
      obtain ⟨nv, av, rfl, hnn, ha, hb3⟩ := hq
      obtain ⟨an, kn, rfl, hrn⟩ := hnn.row
      obtain ⟨aa, ka, rfl, hra⟩ := ha.row
      obtain ⟨hfm, hfl⟩ := parse_form HM2.out.ok HP.out
      have HNP : Hid (0 < t.nodes.length) := hfm.1
      obtain ⟨u, hdone, -⟩ := parse_done HM2.out.ends HM2.out.ok HP.out
      have HSH : Hid (∀ i, i < l.length → cntO l 0 (i + 1) ≤ 64) := fun i hi => done_shal HM2.out.ends hdone hi
      have hbb := (Below.refl w3.heap.size w3).alloc (Nat.le_refl _) (.cells #[.slice an t.nodes.length kn] 27)
      have HB4 := Lib.hid ((HB2.out.trans (hb3.mono HB2.out.size)).trans (hbb.mono (HB2.out.trans (hb3.mono HB2.out.size)).size))
      have HR4 := Lib.hid ((HR2.out.later hb3).later hbb)
      have HX4 := Lib.hid (Blk.new w3 #[.slice an t.nodes.length kn] 27)
      clear hb3 hbb HB2 HR2 HP HM2 hnn ha hrn hra hfm hfl hdone
      generalize t.nodes.length = N at *
      generalize t.ats.length = N2 at *
      go_upto_region 4 with (fail)
      generalize w3.alloc (.cells #[.slice an N kn] 27) = w4 at *
      generalize w3.heap.size = bd at *
      go_wp2_with fail
      refine (DC.out w4 HR4.out).mono ?_; intro e5 w5 hp
      obtain ⟨dp, db, rfl, hb5, hd0, hd1⟩ := hp
      have HB5 := Lib.hid (HB4.out.trans (hb5.mono HB4.out.size))
      have HX5 := Lib.hid (HX4.out.later hb5)
      obtain rfl : db = false := by
        cases db with
        | false => rfl
        | true => obtain ⟨i, h1, h2, _⟩ := hd1 rfl; have := HSH.out i h1; omega
      clear hb5 hd0 hd1 HB4 HR4 DC HSH HX4
      go_upto_region 10 with (fail)
      have hone : Hid (Blk (w5.alloc (.cells #[.int .i64 1, .int .i64 0, .int .u64 0, .int .u64 0, .int .u64 0, .int .u64 0, .string ⟨#[]⟩, .int .i64 0, .int .i64 0, .int .i64 10, .int .i64 0, .int .u64 0, .int .u64 0, .int .u64 0, .int .u64 0, .string ⟨#[]⟩, .int .i64 0, .int .i64 0] 36)) w5.heap.size #[.int .i64 1, .int .i64 0, .int .u64 0, .int .u64 0, .int .u64 0, .int .u64 0, .string ⟨#[]⟩, .int .i64 0, .int .i64 0, .int .i64 10, .int .i64 0, .int .u64 0, .int .u64 0, .int .u64 0, .int .u64 0, .string ⟨#[]⟩, .int .i64 0, .int .i64 0] 36) := Blk.new _ _ _
      have hb6 := (Below.refl w5.heap.size w5).alloc (Nat.le_refl _) (.cells #[.int .i64 1, .int .i64 0, .int .u64 0, .int .u64 0, .int .u64 0, .int .u64 0, .string ⟨#[]⟩, .int .i64 0, .int .i64 0, .int .i64 10, .int .i64 0, .int .u64 0, .int .u64 0, .int .u64 0, .int .u64 0, .string ⟨#[]⟩, .int .i64 0, .int .i64 0] 36)
      have HB6 := Lib.hid (HB5.out.trans (hb6.mono HB5.out.size))
      have HX6 := Lib.hid (HX5.out.later hb6)
      clear hb6 HB5 HX5
      generalize w5.alloc (.cells #[.int .i64 1, .int .i64 0, .int .u64 0, .int .u64 0, .int .u64 0, .int .u64 0, .string ⟨#[]⟩, .int .i64 0, .int .i64 0, .int .i64 10, .int .i64 0, .int .u64 0, .int .u64 0, .int .u64 0, .int .u64 0, .string ⟨#[]⟩, .int .i64 0, .int .i64 0] 36) = w6 at *
      generalize w5.heap.size = ob at *
      have HS : Hid (PdS w w6.heap.size bd #[.slice an N kn] ob (.slice none 0 0) (opL 0) w6) :=
        ⟨HB6.out, HX6.out, fun j hj => by
          rw [hone.out.cell]
          rcases (by omega : j = 0 ∨ j = 1 ∨ j = 2 ∨ j = 3 ∨ j = 4 ∨ j = 5 ∨ j = 6 ∨ j = 7 ∨ j = 8) with rfl | rfl | rfl | rfl | rfl | rfl | rfl | rfl | rfl <;> kernel_rfl, OwnK.nil _ _, HB6.out.size, HX6.out.lt, hone.out.lt, Nat.le_refl _⟩
      generalize w6.heap.size = base at *
      clear hone HB6 HX6
      obtain ⟨M, hM⟩ : ∃ M, 1 + n % 70 = M := ⟨_, rfl⟩
      have hM2 : M ≤ 70 := by omega
      have hm3 : (1 : Int) + (n : Int) % 70 = (M : Int) := by omega
      go_upto_region 11 with (fail)
      clear hM hm3
      have HL : Hid (PdO w base bd #[.slice an N kn] ob M (.slice none 0 0) (.int .i64 0) w6) := ⟨0, Nat.zero_le _, rfl, HS.out⟩
      clear HS
      go_wp2
      go_loopw [13, 14] (PdO w base bd #[.slice an N kn] ob M) (fun _ iv _ => M - (intOf iv).toNat)
      case atStart => exact HL.out
      case round =>
        obtain ⟨k, hk, rfl, hs⟩ := hrel
        have HS := Lib.hid hs
        clear hs HL
        by_cases hlt : k < M
        · have hltz : (k : Int) < (M : Int) := by omega
          have hw1 := wrap_of (by omega : (k : Int) + 1 ≤ 1073741824) (by omega : (0 : Int) ≤ (k : Int) + 1)
          have HXN : Hid (Blk (wr.alloc (.cells #[.int .i64 3, .int .i64 (k : Int), .int .u64 0, .int .u64 0, .int .u64 0, .int .u64 0, .string ⟨#[]⟩, .int .i64 0, .int .i64 0] 36)) wr.heap.size (tkC (opT k)) 36) := by unfold Hid opT; rw [tkC_plain]; exact Blk.new _ _ _
          have HS7 := Lib.hid (HS.out.later ((Below.refl wr.heap.size wr).alloc (Nat.le_refl _) (.cells #[.int .i64 3, .int .i64 (k : Int), .int .u64 0, .int .u64 0, .int .u64 0, .int .u64 0, .string ⟨#[]⟩, .int .i64 0, .int .i64 0] 36)))
          have HLN : Hid ((opL k).length < 1073741824) := by unfold Hid; rw [opL_length]; omega
          clear HS
          go_wp2_with (at_builtin; refine wpList_append_tk rfl _ _ rfl base _ (opL k) rfl HS7.out.own wr.heap.size (opT k) rfl HXN.out HLN.out HS7.out.lo.2.2.2 ?_; intro v' w8 ho hb; have HS8 := Lib.hid (HS7.out.grow (hb _ (Nat.le_refl _)) ho); clear ho hb HS7 HXN HLN)
          go_roundw
          case rel => exact ⟨k + 1, hlt, by go_num, by rw [← opL_succ]; exact HS8.out⟩
          case measure => simp [intOf]; omega
        · have hltz : ¬ (k : Int) < (M : Int) := by omega
          obtain rfl : k = M := by omega
          have o0 := HS.out.one 0 (by omega)
          have o1 := HS.out.one 1 (by omega)
          have o2 := HS.out.one 2 (by omega)
          have o3 := HS.out.one 3 (by omega)
          have o4 := HS.out.one 4 (by omega)
          have o5 := HS.out.one 5 (by omega)
          have o6 := HS.out.one 6 (by omega)
          have o7 := HS.out.one 7 (by omega)
          have o8 := HS.out.one 8 (by omega)
          unfold byT at o0 o1 o2 o3 o4 o5 o6 o7 o8
          rw [tkC_plain] at o0 o1 o2 o3 o4 o5 o6 o7 o8
          simp at o0 o1 o2 o3 o4 o5 o6 o7 o8
          have HXN : Hid (Blk (wr.alloc (.cells #[.int .i64 1, .int .i64 0, .int .u64 0, .int .u64 0, .int .u64 0, .int .u64 0, .string ⟨#[]⟩, .int .i64 0, .int .i64 0] 36)) wr.heap.size (tkC byT) 36) := by unfold Hid byT; rw [tkC_plain]; exact Blk.new _ _ _
          have HS7 := Lib.hid (HS.out.later ((Below.refl wr.heap.size wr).alloc (Nat.le_refl _) (.cells #[.int .i64 1, .int .i64 0, .int .u64 0, .int .u64 0, .int .u64 0, .int .u64 0, .string ⟨#[]⟩, .int .i64 0, .int .i64 0] 36)))
          have HLN : Hid ((opL k).length < 1073741824) := by unfold Hid; rw [opL_length]; omega
          clear HS
          go_upto_region 17 with (at_builtin; refine wpList_append_tk rfl _ _ rfl base _ (opL k) rfl HS7.out.own wr.heap.size byT rfl HXN.out HLN.out HS7.out.lo.2.2.2 ?_; intro v' w8 ho hb; have HS8 := Lib.hid (HS7.out.grow (hb _ (Nat.le_refl _)) ho); clear ho hb HS7 HXN HLN o0 o1 o2 o3 o4 o5 o6 o7 o8)
          have HL : Hid (PdC w base bd #[.slice an N kn] ob k v' (.int .i64 0) w8) := ⟨0, Nat.zero_le _, rfl, by rw [List.replicate_zero, List.append_nil]; exact HS8.out⟩
          clear HS8 hltz
          go_wp2
          go_loopw [13, 15] (PdC w base bd #[.slice an N kn] ob k) (fun _ iv _ => k - (intOf iv).toNat)
          case atStart => exact HL.out
          case round =>
            obtain ⟨j, hj, rfl, hs⟩ := hrel
            have HS := Lib.hid hs
            clear hs HL
            have HLL : Hid (((opL k ++ [byT]) ++ List.replicate j clT).length < 1073741824) := by unfold Hid; simp [opL_length]; omega
            by_cases hlt : j < k
            · have hltz : (j : Int) < (k : Int) := by omega
              have hw1 := wrap_of (by omega : (j : Int) + 1 ≤ 1073741824) (by omega : (0 : Int) ≤ (j : Int) + 1)
              have HXN : Hid (Blk (wr.alloc (.cells #[.int .i64 4, .int .i64 100, .int .u64 0, .int .u64 0, .int .u64 0, .int .u64 0, .string ⟨#[]⟩, .int .i64 0, .int .i64 0] 36)) wr.heap.size (tkC clT) 36) := by unfold Hid clT; rw [tkC_plain]; exact Blk.new _ _ _
              have HS7 := Lib.hid (HS.out.later ((Below.refl wr.heap.size wr).alloc (Nat.le_refl _) (.cells #[.int .i64 4, .int .i64 100, .int .u64 0, .int .u64 0, .int .u64 0, .int .u64 0, .string ⟨#[]⟩, .int .i64 0, .int .i64 0] 36)))
              clear HS
              go_wp2_with (at_builtin; refine wpList_append_tk rfl _ _ rfl base _ ((opL k ++ [byT]) ++ List.replicate j clT) rfl HS7.out.own wr.heap.size clT rfl HXN.out HLL.out HS7.out.lo.2.2.2 ?_; intro v' w8 ho hb; have HS8 := Lib.hid (HS7.out.grow (hb _ (Nat.le_refl _)) ho); clear ho hb HS7 HXN HLL)
              go_roundw
              case rel => exact ⟨j + 1, hlt, by go_num, by rw [← rep_succ, ← List.append_assoc]; exact HS8.out⟩
              case measure => simp [intOf]; omega
            · have hltz : ¬ (j : Int) < (k : Int) := by omega
              obtain rfl : j = k := by omega
              have HXN : Hid (Blk (wr.alloc (.cells #[.int .i64 10, .int .i64 200, .int .u64 0, .int .u64 0, .int .u64 0, .int .u64 0, .string ⟨#[]⟩, .int .i64 0, .int .i64 0] 36)) wr.heap.size (tkC enT) 36) := by unfold Hid enT; rw [tkC_plain]; exact Blk.new _ _ _
              have HS7 := Lib.hid (HS.out.later ((Below.refl wr.heap.size wr).alloc (Nat.le_refl _) (.cells #[.int .i64 10, .int .i64 200, .int .u64 0, .int .u64 0, .int .u64 0, .int .u64 0, .string ⟨#[]⟩, .int .i64 0, .int .i64 0] 36)))
              clear HS
              go_upto_region 22 with (at_builtin; refine wpList_append_tk rfl _ _ rfl base _ ((opL j ++ [byT]) ++ List.replicate j clT) rfl HS7.out.own wr.heap.size enT rfl HXN.out HLL.out HS7.out.lo.2.2.2 ?_; intro v' w8 ho hb; have HS8 := Lib.hid (HS7.out.grow (hb _ (Nat.le_refl _)) ho); clear ho hb HS7 HXN HLL)
              have hs8 : PdS w base bd #[.slice an N kn] ob v' (nestL j) w8 := HS8.out
              obtain ⟨a8, c8, rfl, hr8⟩ := hs8.own.row
              obtain ⟨r, hr⟩ : ∃ r, parseP (nestL j) = r := ⟨_, rfl⟩
              have PC : Hid (Calls Try.prog 9 #[.slice a8 (nestL j).length c8] w8 (PParse w8 r)) := by
                have q := parse_any (nestL_txt j) (nestL_ends j) (by rw [nestL_length]; omega) a8 c8 w8 hr8
                rw [hr] at q; exact q
              have hpn := parse_nest (nestL_nest j)
              rw [hr] at hpn
              have HPN := Lib.hid hpn
              have HS9 := Lib.hid hs8
              clear hs8 hr8 hr hpn HS8 hltz
              generalize (nestL j).length = LN at *
              go_wp2_with fail
              refine PC.out.mono ?_; intro e9 w9 hq
              clear PC
              by_cases h64 : 64 < j
              · have hz : (64 : Int) < (j : Int) := by omega
                obtain rfl := HPN.out.2 h64
                obtain ⟨rfl, hb9⟩ := hq
                have HSA := Lib.hid (HS9.out.later hb9)
                clear hb9 HS9 HPN
                go_wp2
                go_ret
                exact ⟨rfl, HSA.out.bel.alloc HSA.out.bel.size _⟩
              · have hz : ¬ (64 : Int) < (j : Int) := by omega
                obtain ⟨k2, t2, rfl, ht2⟩ := HPN.out.1 (by omega)
                obtain ⟨nv, av, rfl, hnn, ha, hb9⟩ := hq
                obtain ⟨an2, kn2, rfl, -⟩ := hnn.row
                obtain ⟨aa2, ka2, rfl, -⟩ := ha.row
                rw [ht2]
                have HSA := Lib.hid (HS9.out.later hb9)
                have hbb := (Below.refl w9.heap.size w9).alloc (Nat.le_refl _) (.cells #[.slice an2 1 kn2] 27)
                have HSB := Lib.hid (HSA.out.later hbb)
                clear hb9 HS9 HPN hnn ha HSA hbb
                go_upto_region 23 with (fail)
                have HXB := Lib.hid (Blk.new w9 #[.slice an2 1 kn2] 27)
                generalize w9.alloc (.cells #[.slice an2 1 kn2] 27) = wA at *
                generalize w9.heap.size = bA at *
                have d1 := HSB.out.x1.cell 0
                have d2 := HXB.out.cell 0
                simp at d1 d2
                have hnp : (0 : Int) < (N : Int) := by have := HNP.out; omega
                have hnq : decide (0 < N) = true := decide_eq_true HNP.out
                go_wp2
                go_ret
                exact ⟨rfl, HSB.out.bel⟩
end Go.Proofs.Ytencdlcpnbdlbaa
