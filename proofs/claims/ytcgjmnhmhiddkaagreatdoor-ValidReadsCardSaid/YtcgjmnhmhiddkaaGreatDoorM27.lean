/- The parser's group: walked. -/
import Derived.Test.YtcgjmnhmhiddkaaGreatDoorM26
import Derived.Test.YtcgjmnhmhiddkaaGreatDoorM15
import Derived.Test.YtcgjmnhmhiddkaaGreatDoorM19
import Derived.Test.YtcgjmnhmhiddkaaGreatDoorM24
import Derived.Test.YtcgjmnhmhiddkaaGreatDoorM20
import Derived.Tactics
import Derived.Tactics2
import Derived.Defers
import Derived.Recover
namespace Go.Proofs.YtcgjmnhmhiddkaaGreatDoor
open Go Go.RowKit
set_option linter.unusedVariables false
set_option linter.unusedSimpArgs false
structure GpS (w0 : World) (B pb : Nat) (A : Option Addr) (cp : Nat) (l : List Tk) (u : PS) (ov nv av : Value) (w : World) : Prop where
  bel : Fr B w0 w
  st : Pst0 w B pb A cp l u ov nv av
theorem GpS.later {w0 : World} {B pb : Nat} {A : Option Addr} {cp : Nat} {l : List Tk} {u : PS} {ov nv av : Value} {w w' : World} (h : GpS w0 B pb A cp l u ov nv av w) (hb : Below w.heap.size w w') : GpS w0 B pb A cp l u ov nv av w' :=
  ⟨h.bel.trans (Fr.of hb (Nat.le_of_lt (Nat.lt_of_le_of_lt h.st.base h.st.blk.lt))), h.st.later hb⟩
section
variable {w : World} {B pb : Nat} {A : Option Addr} {cp : Nat} {l : List Tk} {s : PS} {ov nv av : Value}
set_option maxHeartbeats 8000000 in
set_option maxRecDepth 100000 in
theorem group_no (hP : Pst w B pb A cp l s) (h3 : (tkAt l s.read).kind ≠ 3) : Calls Tryz.prog 176 #[.pointer (some ⟨pb, 0, none⟩)] w (RunPost B pb A cp l w (faultP l s)) := by
  obtain ⟨ov, nv, av, h0⟩ := hP
  obtain ⟨e, p, hf⟩ := fault_some l s
  have HW := Lib.hid (want_bad h0 h3 hf)
  have hbs : B ≤ w.heap.size := Nat.le_of_lt (Nat.lt_of_le_of_lt h0.base h0.blk.lt)
  rw [hf]
  clear hf h3 h0
  go_enter Tryz.func176, Tryz.ntmps176
  go_wp2_with fail
  refine HW.out.mono ?_; rintro e1 w1 ⟨rfl, hb1⟩
  have HB1 := Lib.hid (Fr.of hb1 hbs)
  clear hb1 HW
  go_wp2
  exact ⟨rfl, (by assumption : ftE e p = _).symm, HB1.out⟩
set_option maxHeartbeats 8000000 in
set_option maxRecDepth 100000 in
theorem group_deep (hP : Pst w B pb A cp l s) {x : Tk} (hx : tkAt l s.read = x) (h3 : x.kind = 3) (hread : s.read < 16777216) (hd : 64 < s.opn.length + 1) (hlo : s.opn.length < 16777216) : Calls Tryz.prog 176 #[.pointer (some ⟨pb, 0, none⟩)] w (RunPost B pb A cp l w (.bad 8 x.at_)) := by
  obtain ⟨ov, nv, av, h0⟩ := hP
  have hbs : B ≤ w.heap.size := Nat.le_of_lt (Nat.lt_of_le_of_lt h0.base h0.blk.lt)
  have HW := Lib.hid (want_ok (k := 3) h0 (by rw [hx]; exact h3) hread)
  have hol := h0.op
  obtain ⟨O, oc, hov, -⟩ := h0.opn.row
  rw [hx] at HW
  unfold tkC at HW
  rw [hov] at HW
  clear h3 h0 hov
  go_enter Tryz.func176, Tryz.ntmps176
  go_wp2_with fail
  refine HW.out.mono ?_; rintro e1 w1 ⟨rfl, hP1, hb1⟩
  have hf1 := field_tok1 x.kind x.at_ x.lo x.hi (wd x.cls 0) (wd x.cls 1) (wd x.cls 2) (wd x.cls 3) (bs x.text) w1
  have HP1 := Lib.hid hP1
  have HB1 := Lib.hid hb1
  clear hP1 hb1 HW
  go_upto_region 2 with (fail)
  have c2 := HP1.out.blk.cell 2
  have cf := HP1.out.blk.frozen
  simp at c2
  have HBN := Lib.hid (Blk.new w1 #[.int .i64 x.at_] 3)
  have HP2 := Lib.hid (HP1.out.later ((Below.refl _ _).alloc (Nat.le_refl _) (.cells #[.int .i64 x.at_] 3)))
  have HB2 := Lib.hid (HB1.out.alloc (Nat.le_of_lt (Nat.lt_of_le_of_lt HP1.out.base HP1.out.blk.lt)) (.cells #[.int .i64 x.at_] 3))
  have hmm : Hid ((s.next.opn ++ [x.at_]).length = s.opn.length + 1) := by unfold Hid; simp [PS.next]
  have hgt : (64 : Int) < ((s.opn.length : Nat) : Int) + 1 := by omega
  go_upto_region 3 with (at_builtin; refine wpList_append_int rfl _ _ rfl B (.slice O s.opn.length oc) s.next.opn rfl HP2.out.opn _ x.at_ rfl HBN.out (by simp only [PS.next]; omega) (Nat.le_of_lt (Nat.lt_of_le_of_lt HP2.out.base HP2.out.blk.lt)) ?_; intro v' w4 h1 h2 h3; obtain ⟨a9, k9, rfl, -⟩ := h1.row; obtain ⟨hb5, hp5⟩ := HP2.out.setOpn h1 h2 h3 hlo; rw [hmm.out] at hp5 ⊢; have HP5 := Lib.hid hp5; have HB5 := Lib.hid ((HB2.out.row HP2.out.opn (Nat.le_refl _) (by decide) (Nat.le_of_lt (Nat.lt_of_le_of_lt HP2.out.base HP2.out.blk.lt)) h2).setB hb5 (by decide) HP2.out.base 2 (.slice a9 (s.opn.length + 1) k9)); have d2 := hb5.cell 2; have df := hb5.frozen; simp at d2; clear hb5 hp5 h1 h2 h3 HP1 HB1 HP2 HB2 HBN c2 cf)
  generalize w4.setCell ⟨pb, 2, none⟩ (.slice a9 (s.opn.length + 1) k9) = w5 at *
  have c2 := HP5.out.blk.cell 2
  simp at c2
  go_wp2
  exact ⟨rfl, rfl, HB5.out⟩
set_option maxHeartbeats 8000000 in
set_option maxRecDepth 100000 in
theorem group_go (hP : Pst w B pb A cp l s) {x : Tk} (hx : tkAt l s.read = x) (h3 : x.kind = 3) (hread : s.read < 16777216) (hd : ¬ 64 < s.opn.length + 1) (hlo : s.opn.length < 16777216)
    {r : PR} (hI : CallM 183 l { s.next with opn := s.opn ++ [x.at_] } r) (hq : ∀ b v, r = .ok b v → v.opn = s.opn ++ [x.at_]) :
    Calls Tryz.prog 176 #[.pointer (some ⟨pb, 0, none⟩)] w (RunPost B pb A cp l w (r.bind fun g s => if (tkAt l s.read).kind = 4 then .ok g { s.next with opn := s.opn.dropLast } else faultP l s)) := by
  have HI := Lib.hid hI
  have HQ := Lib.hid hq
  obtain ⟨rr, hrr⟩ : ∃ rr, (r.bind fun g s => if (tkAt l s.read).kind = 4 then .ok g { s.next with opn := s.opn.dropLast } else faultP l s) = rr := ⟨_, rfl⟩
  rw [hrr]
  have HRR := Lib.hid hrr
  clear hI hq hrr
  obtain ⟨ov, nv, av, h0⟩ := hP
  have hbs : B ≤ w.heap.size := Nat.le_of_lt (Nat.lt_of_le_of_lt h0.base h0.blk.lt)
  have HW := Lib.hid (want_ok (k := 3) h0 (by rw [hx]; exact h3) hread)
  have hol := h0.op
  obtain ⟨O, oc, hov, -⟩ := h0.opn.row
  rw [hx] at HW
  unfold tkC at HW
  rw [hov] at HW
  clear h3 h0 hov
  go_enter Tryz.func176, Tryz.ntmps176
  go_wp2_with fail
  refine HW.out.mono ?_; rintro e1 w1 ⟨rfl, hP1, hb1⟩
  have hf1 := field_tok1 x.kind x.at_ x.lo x.hi (wd x.cls 0) (wd x.cls 1) (wd x.cls 2) (wd x.cls 3) (bs x.text) w1
  have HP1 := Lib.hid hP1
  have HB1 := Lib.hid hb1
  clear hP1 hb1 HW
  go_upto_region 2 with (fail)
  have c2 := HP1.out.blk.cell 2
  have cf := HP1.out.blk.frozen
  simp at c2
  have HBN := Lib.hid (Blk.new w1 #[.int .i64 x.at_] 3)
  have HP2 := Lib.hid (HP1.out.later ((Below.refl _ _).alloc (Nat.le_refl _) (.cells #[.int .i64 x.at_] 3)))
  have HB2 := Lib.hid (HB1.out.alloc (Nat.le_of_lt (Nat.lt_of_le_of_lt HP1.out.base HP1.out.blk.lt)) (.cells #[.int .i64 x.at_] 3))
  have hmm : Hid ((s.next.opn ++ [x.at_]).length = s.opn.length + 1) := by unfold Hid; simp [PS.next]
  have hgt : ¬ ((64 : Int) < ((s.opn.length : Nat) : Int) + 1) := by omega
  go_upto_region 3 with (at_builtin; refine wpList_append_int rfl _ _ rfl B (.slice O s.opn.length oc) s.next.opn rfl HP2.out.opn _ x.at_ rfl HBN.out (by simp only [PS.next]; omega) (Nat.le_of_lt (Nat.lt_of_le_of_lt HP2.out.base HP2.out.blk.lt)) ?_; intro v' w4 h1 h2 h3; obtain ⟨a9, k9, rfl, -⟩ := h1.row; obtain ⟨hb5, hp5⟩ := HP2.out.setOpn h1 h2 h3 hlo; rw [hmm.out] at hp5 ⊢; have HP5 := Lib.hid hp5; have HB5 := Lib.hid ((HB2.out.row HP2.out.opn (Nat.le_refl _) (by decide) (Nat.le_of_lt (Nat.lt_of_le_of_lt HP2.out.base HP2.out.blk.lt)) h2).setB hb5 (by decide) HP2.out.base 2 (.slice a9 (s.opn.length + 1) k9)); have d2 := hb5.cell 2; have df := hb5.frozen; simp at d2; clear hb5 hp5 h1 h2 h3 HP1 HB1 HP2 HB2 HBN c2 cf)
  generalize w4.setCell ⟨pb, 2, none⟩ (.slice a9 (s.opn.length + 1) k9) = w5 at *
  clear df d2
  have c2 := HP5.out.blk.cell 2
  simp at c2
  go_wp2_with fail
  refine (HI.out _ B pb A cp ⟨_, _, _, HP5.out⟩).mono ?_; intro e6 w6 hq
  cases r with
  | out => exact absurd hq id
  | bad e p =>
    obtain ⟨rfl, hb6⟩ := hq
    have HB6 := Lib.hid (HB5.out.trans hb6)
    have hrr : rr = .bad e p := HRR.out.symm
    subst hrr
    clear hb6 HI HQ HP5 HB5 HRR
    go_wp2
    exact ⟨rfl, (by assumption : ftE e p = _).symm, HB6.out⟩
  | ok a v =>
    obtain ⟨rfl, hP6, hb6⟩ := hq
    have HB6 := Lib.hid (HB5.out.trans hb6)
    have hvo := HQ.out a v rfl
    clear hb6 HI HQ HP5 HB5
    obtain ⟨ov6, nv6, av6, h6⟩ := hP6
    have hr : (if (tkAt l v.read).kind = 4 then PR.ok a { v.next with opn := v.opn.dropLast } else faultP l v) = rr := HRR.out
    clear HRR
    by_cases h4 : (tkAt l v.read).kind = 4
    · rw [if_pos h4] at hr
      have hread6 : v.read < 16777216 := Nat.lt_of_lt_of_le (tk_in (by rw [h4]; decide)) h6.long
      have HW6 := Lib.hid (want_ok h6 h4 hread6)
      have HVO := Lib.hid hvo
      have HR := Lib.hid hr
      clear h6 hr h4 hread6 hvo
      generalize tkAt l v.read = y at *
      unfold tkC at HW6
      go_wp2_with fail
      refine HW6.out.mono ?_; rintro e7 w7 ⟨rfl, hP7, hb7⟩
      have HS7 : Hid (GpS w B pb A cp l v.next ov6 nv6 av6 w7) := ⟨HB6.out.trans hb7, hP7⟩
      clear hP7 hb7 HB6 HW6
      have hlen : v.next.opn.length = s.opn.length + 1 := by show v.opn.length = _; rw [HVO.out]; simp
      have hpos : 0 < v.next.opn.length := by omega
      obtain ⟨g, c, hv, hc, -⟩ := HS7.out.st.dropOpn hpos
      generalize s.opn.length = m at *
      rw [hlen] at hv hc
      subst hv
      have HLEN := Lib.hid hlen
      have HPOS := Lib.hid hpos
      have hrr := HR.out
      subst hrr
      have hw1 := wrap_of (by omega : (m : Int) ≤ 1073741824) (by omega : (0 : Int) ≤ (m : Int))
      have hw2 := wrap_of (by omega : (m : Int) + 1 - 1 ≤ 1073741824) (by omega : (0 : Int) ≤ (m : Int) + 1 - 1)
      have hmc : m ≤ c := by omega
      clear HVO HR hlen hpos hgt c2 hmm hf1 hd hlo hol
      go_upto_region 7 with (fail)
      refine wp_region_stable_tail 14 (S := (GpS w B pb A cp l v.next (.slice (some ⟨g, 0, none⟩) (m + 1) c) nv6 av6)) (hSt := fun _ _ h hb => h.later hb) (plan := [[(0, none)], [(0, none)], [(32, some 1)], [(33, some 2)], [(34, some 3)], [(0, none)], [(36, some 5)], [(37, some 6)], [(38, some 7)], [(39, some 8)], [(40, some 9)], [(35, some 4), (41, some 10)], [(31, some 0)], [(43, some 12)]]) rfl rfl (by kernel_rfl) (by kernel_rfl) (by kernel_rfl) (by kernel_rfl) ?hS ?_
      rotate_left
      iterate 14 first
        | (refine chain_skip (by rfl) (by rfl) ?_)
        | (apply chain_want (by rfl)
           · intro act wx hS hr
             simp at hr
             have c2 := hS.st.blk.cell 2
             simp at c2
             go_simp
             (try go_ints)
             first
               | exact Done.same
          )
      show ∀ w', _ → _
      intro wz hz
      simp [Act.put]
      case hS => exact HS7.out
      obtain ⟨g', c', hv', hc', hp'⟩ := hz.st.dropOpn HPOS.out
      rw [HLEN.out, Nat.add_sub_cancel] at hp'
      rw [HLEN.out] at hv'
      have c2 := hz.st.blk.cell 2
      simp at c2
      have cf := hz.st.blk.frozen
      have hB := Lib.hid (hz.bel.setP0 hz.st 2 (.slice (some ⟨g, 0, none⟩) m c))
      cases hv'
      have HPP := Lib.hid hp'
      clear hp' hc' HS7 hz
      go_wp2
      exact bodyPost_ret (v := .int .i64 a) (by simp [results, Tryz.results176, go_sem]) rfl ⟨rfl, ⟨_, _, _, HPP.out⟩, hB.out⟩
    · rw [if_neg h4] at hr
      obtain ⟨e, p, hf⟩ := fault_some l v
      have HW6 := Lib.hid (want_bad h6 h4 hf)
      have HF := Lib.hid (hf.symm.trans hr)
      have hbs6 : B ≤ w6.heap.size := Nat.le_of_lt (Nat.lt_of_le_of_lt h6.base h6.blk.lt)
      clear h6 hr h4 hf hvo
      go_wp2_with fail
      refine HW6.out.mono ?_; rintro e7 w7 ⟨rfl, hb7⟩
      have HB7 := Lib.hid (HB6.out.trans (Fr.of hb7 hbs6))
      have hrr := HF.out
      subst hrr
      clear hb7 HB6 HW6 HF
      go_wp2
      exact ⟨rfl, (by assumption : ftE e p = _).symm, HB7.out⟩
end
def TkTxt' (l : List Tk) : Prop := ∀ p, (tkAt l p).text.length ≤ 281474976710656
theorem atom_step {l : List Tk} (hl : TkTxt' l) {n : Nat} (IH : ∀ k, k ≤ n → RunC l k) {s : PS} (hi : Inv s) (hne : run l (n + 1) .atom s ≠ .out) : CallM 166 l s (run l (n + 1) .atom s) := by
  intro w B pb A cp hP
  obtain ⟨x, hx⟩ : ∃ x, tkAt l s.read = x := ⟨_, rfl⟩
  have hlong := hP.long
  have hin : x.kind ≠ 10 → s.read < 16777216 := fun h => Nat.lt_of_lt_of_le (tk_in (by rw [hx]; exact h)) hlong
  have hr : run l (n + 1) .atom s = if x.kind = 1 then layK s.next { kind := 2, cls := x.cls } (-1)
    else if x.kind = 2 then layK s.next { kind := 3, text := x.text } (-1)
    else if x.kind = 3 then run l n .group s
    else if x.kind = 8 then (run l n .group s.next).bind fun g s => layK s { kind := 8, a := g } (-1)
    else if x.kind = 9 then (run l n .group s.next).bind fun g s => layK s { kind := 9, a := g } (-1)
    else faultP l s := by rw [← hx]; rfl
  rw [hr] at hne ⊢
  clear hr
  have hq : ∀ b v, run l n .group s.next = .ok b v → v.count ≤ 2 * v.read + 2 ∧ KeptO v := fun b v h => by
    have q := run_inv h hi.next
    simp only [moreM, lessM] at q
    exact ⟨by omega, q.2⟩
  by_cases h1 : x.kind = 1
  · rw [if_pos h1]; exact atom_bytes hP hi hx h1 (hin (by rw [h1]; decide))
  rw [if_neg h1] at hne ⊢
  by_cases h2 : x.kind = 2
  · rw [if_pos h2]; exact atom_text hP hi hx h2 (hin (by rw [h2]; decide)) (by rw [← hx]; exact hl _)
  rw [if_neg h2] at hne ⊢
  by_cases h3 : x.kind = 3
  · rw [if_pos h3] at hne ⊢
    exact atom_open hP hx h3 hne (IH n (Nat.le_refl _) .group _ s rfl hi hne)
  rw [if_neg h3] at hne ⊢
  by_cases h8 : x.kind = 8
  · rw [if_pos h8] at hne ⊢
    have ho : run l n .group s.next ≠ .out := fun e => hne (by rw [e]; rfl)
    exact atom_frame hP hi hx h8 (hin (by rw [h8]; decide)) ho (IH n (Nat.le_refl _) .group _ s.next rfl hi.next ho) hq
  rw [if_neg h8] at hne ⊢
  by_cases h9 : x.kind = 9
  · rw [if_pos h9] at hne ⊢
    have ho : run l n .group s.next ≠ .out := fun e => hne (by rw [e]; rfl)
    exact atom_wide hP hi hx h9 (hin (by rw [h9]; decide)) ho (IH n (Nat.le_refl _) .group _ s.next rfl hi.next ho) hq
  rw [if_neg h9]
  exact atom_no hP hx h1 h2 h3 h8 h9
theorem group_step {l : List Tk} {n : Nat} (IH : ∀ k, k ≤ n → RunC l k) {s : PS} (hi : Inv s) (hne : run l (n + 1) .group s ≠ .out) : CallM 176 l s (run l (n + 1) .group s) := by
  intro w B pb A cp hP
  obtain ⟨x, hx⟩ : ∃ x, tkAt l s.read = x := ⟨_, rfl⟩
  have hlong := hP.long
  have hr : run l (n + 1) .group s = if x.kind = 3 then (if 64 < s.opn.length + 1 then .bad 8 x.at_
      else (run l n .inside { s.next with opn := s.opn ++ [x.at_] }).bind fun g s => if (tkAt l s.read).kind = 4 then .ok g { s.next with opn := s.opn.dropLast } else faultP l s) else faultP l s := by rw [← hx]; rfl
  rw [hr] at hne ⊢
  clear hr
  have hop := hi.2.2
  by_cases h3 : x.kind = 3
  · have hread : s.read < 16777216 := Nat.lt_of_lt_of_le (tk_in (by rw [hx, h3]; decide)) hlong
    rw [if_pos h3] at hne ⊢
    by_cases hd : 64 < s.opn.length + 1
    · rw [if_pos hd]
      exact group_deep hP hx h3 hread hd (by omega)
    · rw [if_neg hd] at hne ⊢
      have hi2 : Inv { s.next with opn := s.opn ++ [x.at_] } := ⟨by have := hi.1; simp only [PS.next]; omega, hi.2.1, by simp; omega⟩
      have ho : run l n .inside { s.next with opn := s.opn ++ [x.at_] } ≠ .out := fun e => hne (by rw [e]; rfl)
      exact group_go hP hx h3 hread hd (by omega) (IH n (Nat.le_refl _) .inside _ _ rfl hi2 ho) (fun b v h => (run_read _ _ _ _ _ h).2.1)
  · rw [if_neg h3]
    exact group_no hP (by rw [hx]; exact h3)
theorem run_call {l : List Tk} (hl : TkTxt' l) : ∀ n k, k ≤ n → RunC l k
  | 0, k, hk => fun m f s _ _ hne => by
    obtain rfl : k = 0 := by omega
    exact absurd rfl hne
  | n + 1, k, hk => by
    have IH := run_call hl n
    by_cases h : k ≤ n
    · exact IH k h
    obtain rfl : k = n + 1 := by omega
    intro m f s hm hi hne
    cases m with
    | or => cases hm; exact or_step IH hi hne
    | row => cases hm; exact row_step IH hi hne
    | post => cases hm; exact post_step IH hi hne
    | atom => cases hm; exact atom_step hl IH hi hne
    | group => cases hm; exact group_step IH hi hne
    | inside => cases hm; exact inside_step IH hi hne
    | orL a => cases hm
    | rowL a => cases hm
    | postL a => cases hm
theorem as_fault (v : Value) (w : World) : (Instr.typeAssert (.iface 153 v) 20 153 true).run Tryz.prog w = .ok (.tuple #[v, .bool true]) w := by kernel_rfl
theorem as_nil (w : World) : (Instr.typeAssert .nilIface 20 153 true).run Tryz.prog w = .ok (.tuple #[.agg #[.int .i64 0, .int .i64 0], .bool false]) w := by kernel_rfl
theorem ne_fault (v : Value) (w : World) : (binOp .neq 20 (.iface 153 v) .nilIface).run Tryz.prog w = .ok (.bool true) w := by kernel_rfl
theorem neg_fault (v : Value) (w : World) : (eqGuard .neq 20 (.tmp 10) (.const .nilIface) (.iface 153 v) .nilIface).run Tryz.prog w = .ok () w := by kernel_rfl
theorem neg_nil (w : World) : (eqGuard .neq 20 (.tmp 10) (.const .nilIface) .nilIface .nilIface).run Tryz.prog w = .ok () w := by kernel_rfl
theorem ne_nil (w : World) : (binOp .neq 20 .nilIface .nilIface).run Tryz.prog w = .ok (.bool false) w := by kernel_rfl
set_option maxHeartbeats 2000000 in
set_option maxRecDepth 100000 in
theorem rec_panic (fb : Nat) (z0 z1 : Value) (e q : Int) (older : List PanicEntry) (w : World) (hb : Blk w fb #[z0, z1] 153) :
    CallsD Tryz.prog 116 #[.pointer (some ⟨fb, 0, none⟩)] (.panicking ({ v := .iface 153 (ftV e q), recovered := false } :: older)) w fun en u' w' =>
      en = .returned (.tuple #[]) ∧ u' = .panicking ({ v := .iface 153 (ftV e q), recovered := true } :: older) ∧ w' = ((w.alloc (.cells #[.int .i64 e, .int .i64 q] 153)).setCell ⟨fb, 0, none⟩ (.int .i64 e)).setCell ⟨fb, 1, none⟩ (.int .i64 q) := by
  refine callsD_of_wpS Tryz.func116 rfl fun c₀ cs hu => ?_
  apply wpS_seq
  apply wpS_region
  simp [wpOpsS, go_sem, recoverD, hu, Tryz.ntmps116, Exit.thenS]
  refine wpS_of_wp ?_
  unfold ftV at hu ⊢
  generalize hX : Value.iface 153 (.agg #[.int .i64 e, .int .i64 q]) = X
  generalize hT : (#[Value.pointer (some ⟨fb, 0, none⟩)] ++ _ : Array Value) = T
  obtain rfl : T = #[Value.pointer (some ⟨fb, 0, none⟩), X, undef, undef, X, undef, undef, undef, undef, undef, undef, undef, undef, undef, undef, undef, undef, undef] := by rw [← hT]; rfl
  subst hX
  clear hT
  have hb2 := Lib.hid (hb.alloc (.cells #[.int .i64 e, .int .i64 q] 153))
  have c0 := hb2.out.cell 0
  have c1 := hb2.out.cell 1
  simp at c0 c1
  have fz := hb2.out.frozen
  have hne : w.heap.size ≠ fb := Nat.ne_of_gt hb.lt
  clear hb
  have ha := as_fault (.agg #[.int .i64 e, .int .i64 q]) w
  go_upto_region 2 with (fail)
  have hn1 : Hid (Blk (w.alloc (.cells #[.int .i64 e, .int .i64 q] 153)) w.heap.size #[.int .i64 e, .int .i64 q] 153) := Blk.new w _ _
  generalize hW1 : w.alloc (.cells #[.int .i64 e, .int .i64 q] 153) = w1 at *
  have HW1 := Lib.hid hW1
  clear hW1
  generalize w.heap.size = n at *
  have hbn := ne_fault (.agg #[.int .i64 e, .int .i64 q]) w1
  have hbg := neg_fault (.agg #[.int .i64 e, .int .i64 q]) w1
  clear ha
  go_upto_region 4 with (fail)
  have d0 := hn1.out.cell 0
  have d1 := hn1.out.cell 1
  simp at d0 d1
  clear hbn
  go_wp2
  rw [HW1.out]
  simp [bodyPostS, results, Tryz.results116]
set_option maxHeartbeats 2000000 in
set_option maxRecDepth 100000 in
theorem rec_quiet (fb : Nat) (z0 z1 : Value) (w : World) (hb : Blk w fb #[z0, z1] 153) :
    CallsD Tryz.prog 116 #[.pointer (some ⟨fb, 0, none⟩)] .returning w fun en u' w' =>
      en = .returned (.tuple #[]) ∧ u' = .returning ∧ w' = ((w.alloc (.cells #[.int .i64 0, .int .i64 0] 153)).setCell ⟨fb, 0, none⟩ (.int .i64 0)).setCell ⟨fb, 1, none⟩ (.int .i64 0) := by
  refine callsD_of_wpS Tryz.func116 rfl fun c₀ cs hu => ?_
  apply wpS_seq
  apply wpS_region
  simp [wpOpsS, go_sem, recoverD, hu, Tryz.ntmps116, Exit.thenS]
  refine wpS_of_wp ?_
  generalize hT : (#[Value.pointer (some ⟨fb, 0, none⟩)] ++ _ : Array Value) = T
  obtain rfl : T = #[Value.pointer (some ⟨fb, 0, none⟩), .nilIface, undef, undef, .nilIface, undef, undef, undef, undef, undef, undef, undef, undef, undef, undef, undef, undef, undef] := by rw [← hT]; rfl
  clear hT
  have hb2 := Lib.hid (hb.alloc (.cells #[.int .i64 0, .int .i64 0] 153))
  have c0 := hb2.out.cell 0
  have c1 := hb2.out.cell 1
  simp at c0 c1
  have fz := hb2.out.frozen
  have hne : w.heap.size ≠ fb := Nat.ne_of_gt hb.lt
  clear hb
  have ha := as_nil w
  go_upto_region 2 with (fail)
  have hn1 : Hid (Blk (w.alloc (.cells #[.int .i64 0, .int .i64 0] 153)) w.heap.size #[.int .i64 0, .int .i64 0] 153) := Blk.new w _ _
  generalize hW1 : w.alloc (.cells #[.int .i64 0, .int .i64 0] 153) = w1 at *
  have HW1 := Lib.hid hW1
  clear hW1
  generalize w.heap.size = n at *
  have hbn := ne_nil w1
  have hbg := neg_nil w1
  clear ha
  go_upto_region 4 with (fail)
  have d0 := hn1.out.cell 0
  have d1 := hn1.out.cell 1
  simp at d0 d1
  clear hbn
  go_wp2
  rw [HW1.out]
  cases c₀
  simp at hu
  subst hu
  simp [bodyPostS, results, Tryz.results116]
def PrunPost (B pb : Nat) (A : Option Addr) (cp : Nat) (l : List Tk) (w : World) (r : PR) (e : Ending) (w' : World) : Prop := match r with
  | .ok k t => e = .returned (ftV 0 0) ∧ Pst w' B pb A cp l t ∧ Below B w w'
  | .bad er p => e = .returned (ftV er p) ∧ Below B w w'
  | .out => False
theorem Pst.cell5 {w : World} {B pb : Nat} {A : Option Addr} {cp : Nat} {l : List Tk} {s : PS} (h : Pst w B pb A cp l s) : w.cell? ⟨pb, 5, none⟩ = some (.int .i64 (s.count : Int)) := by
  obtain ⟨ov, nv, av, h⟩ := h
  have := h.blk.cell 5
  simpa using this
theorem Pst.boxF {w : World} {B pb : Nat} {A : Option Addr} {cp : Nat} {l : List Tk} {s : PS} (h : Pst w B pb A cp l s) {g : Nat} {vs : Array Value} (hg : Blk w g vs 153) (hB : B ≤ g) (o : Nat) (u : Value) : Pst (w.setCell ⟨g, o, none⟩ u) B pb A cp l s := by
  obtain ⟨ov, nv, av, h⟩ := h
  exact ⟨ov, nv, av, h.box hg (by decide) (by decide) (by decide) hB o u⟩
theorem want_call {w : World} {B pb : Nat} {A : Option Addr} {cp : Nat} {l : List Tk} {s : PS} (hP : Pst w B pb A cp l s) (k : Int) (hr : s.read < 16777216) :
    Calls Tryz.prog 118 #[.pointer (some ⟨pb, 0, none⟩), .int .i64 k] w (fun e' w' => if (tkAt l s.read).kind = k then e' = .returned (.agg (tkC (tkAt l s.read))) ∧ Pst w' B pb A cp l s.next ∧ Fr B w w' else ∃ er p, faultP l s = .bad er p ∧ e' = ftE er p ∧ Fr B w w') := by
  have hb := hP.heap
  obtain ⟨o1, o2, o3, h0⟩ := hP
  by_cases hk : (tkAt l s.read).kind = k
  · simp only [if_pos hk]
    exact (want_ok h0 hk hr).mono fun e' w' ⟨h1, h2, h3⟩ => ⟨h1, ⟨_, _, _, h2⟩, h3⟩
  · simp only [if_neg hk]
    obtain ⟨er, p, hf⟩ := fault_some l s
    exact (want_bad h0 hk hf).mono fun e' w' ⟨h1, h2⟩ => ⟨er, p, hf, h1, Fr.of h2 hb⟩
set_option maxHeartbeats 4000000 in
set_option maxRecDepth 100000 in
theorem prun_any {l : List Tk} (hl : TkTxt' l) (he : TEnds l) {w : World} {B pb : Nat} {A : Option Addr} {cp : Nat} (hP : Pst w B pb A cp l {}) :
    Calls Tryz.prog 86 #[.pointer (some ⟨pb, 0, none⟩)] w (PrunPost B pb A cp l w (parseP l)) := by
  have hmf : ∀ (fn : Fn) (first cap : Array Value) (w : World), (Instr.makeFunc fn first cap).run Tryz.prog w = .ok (.func fn first cap) w := fun _ _ _ _ => rfl
  have hbs := hP.heap
  obtain ⟨r1, h1⟩ : ∃ r1, run l (10 * l.length + 10) .or {} = r1 := ⟨_, rfl⟩
  have h1o : r1 ≠ .out := by rw [← h1]; exact run_fuel _ _ _ (by simp only [fuelP, rankM]; omega)
  have hiv : Inv {} := ⟨by simp, ⟨rfl, by simp⟩, by simp⟩
  have HC : Hid (∀ w, Pst w B pb A cp l {} → Calls Tryz.prog 117 #[.pointer (some ⟨pb, 0, none⟩)] w (RunPost B pb A cp l w r1)) := fun w h => by
    have q := run_call hl _ _ (Nat.le_refl (10 * l.length + 10)) .or _ {} rfl hiv (by rw [h1]; exact h1o) w B pb A cp h
    rw [h1] at q; exact q
  have HP : Hid (Pst (w.alloc (.cells #[.int .i64 0, .int .i64 0] 153)) B pb A cp l {}) := hP.later ((Below.refl _ _).alloc (Nat.le_refl _) _)
  have HB : Hid (Below B w (w.alloc (.cells #[.int .i64 0, .int .i64 0] 153))) := (Below.refl _ _).alloc hbs _
  have HF : Hid (Blk (w.alloc (.cells #[.int .i64 0, .int .i64 0] 153)) w.heap.size #[.int .i64 0, .int .i64 0] 153) := Blk.new w _ _
  obtain ⟨r, hr⟩ : ∃ r, parseP l = r := ⟨_, rfl⟩
  rw [hr]
  have HR := Lib.hid hr
  have H1 := Lib.hid h1
  clear hr h1 hP hiv
  go_enter_defers Tryz.func86, Tryz.ntmps86
  go_upto_region 2 with (fail)
  generalize w.alloc (.cells #[.int .i64 0, .int .i64 0] 153) = w1 at *
  generalize w.heap.size = fb at *
  go_wp2_with fail
  refine (HC.out w1 HP.out).mono ?_; intro e2 w2 hq
  cases r1 with
  | out => exact absurd hq id
  | bad e p =>
    obtain ⟨rfl, hf2⟩ := hq
    have hrr : r = .bad e p := by
      have q := HR.out
      unfold parseP at q
      rw [H1.out] at q; exact q.symm
    subst hrr
    have HFX := Lib.hid (hf2.typ _ _ HF.out)
    have HBB := Lib.hid (HB.out.trans hf2.bel)
    have HSZ : Hid (B ≤ w2.heap.size) := Nat.le_trans hbs (Nat.le_of_lt HFX.out.lt)
    clear hf2 HC HP HB HF h1o HR H1
    unfold ftE
    simp only []
    refine leaves_cons (f := 116) (args := #[.pointer (some ⟨fb, 0, none⟩)]) (by simp) (by simp [go_sem]) ?_
    have hwx := ((HFX.out.alloc (.cells #[.int .i64 e, .int .i64 p] 153)).setCell 0 (.int .i64 e)).setCell 1 (.int .i64 p)
    simp at hwx
    have HBX := Lib.hid (((HBB.out.alloc HSZ.out (.cells #[.int .i64 e, .int .i64 p] 153)).setCell (p := ⟨fb, 0, none⟩) hbs (.int .i64 e)).setCell (p := ⟨fb, 1, none⟩) hbs (.int .i64 p))
    refine (rec_panic fb _ _ e p [] w2 HFX.out).mono ?_
    rintro e' u' w'' ⟨rfl, rfl, hww⟩
    rw [← hww] at hwx HBX
    have x0 := hwx.cell 0
    have x1 := hwx.cell 1
    simp at x0 x1
    simp [Leaves, settle, results, Tryz.results86, go_sem, x0, x1]
    exact ⟨rfl, HBX.out⟩
  | ok k t =>
    obtain ⟨rfl, hP2, hf2⟩ := hq
    have hread : t.read < 16777216 := Nat.lt_of_lt_of_le (run_range he _ _ _ _ _ H1.out (by have := he.1; omega)) hP2.long
    have HW := Lib.hid (want_call hP2 10 hread)
    have HFX := Lib.hid (hf2.typ _ _ HF.out)
    have HBB := Lib.hid (HB.out.trans hf2.bel)
    have hrr : (if (tkAt l t.read).kind = 10 then (if 4096 < t.count then .bad 9 (tkAt l t.read).at_ else .ok k t.next) else faultP l t) = r := by
      have q := HR.out
      unfold parseP at q
      rw [H1.out] at q; exact q
    have HRR := Lib.hid hrr
    obtain ⟨x, hx⟩ : ∃ x, tkAt l t.read = x := ⟨_, rfl⟩
    rw [hx] at HW HRR
    clear hP2 hf2 hrr HC HP HB HF h1o HR H1 hx
    go_wp2_with fail
    refine HW.out.mono ?_; intro e3 w3 hq
    clear HW
    by_cases h10 : x.kind = 10
    · have hrr := HRR.out
      rw [if_pos h10] at hq hrr
      obtain ⟨rfl, hP3, hf3⟩ := hq
      have HR2 := Lib.hid hrr
      have HFY0 := hf3.typ _ _ HFX.out
      have HBY0 := HBB.out.trans hf3.bel
      have hbw := hP3.heap
      have HFY : Hid (Blk (w3.alloc (.cells (tkC x) 76)) fb #[.int .i64 0, .int .i64 0] 153) := HFY0.alloc _
      have HBY : Hid (Below B w (w3.alloc (.cells (tkC x) 76))) := HBY0.alloc hbw _
      have HP4 : Hid (Pst (w3.alloc (.cells (tkC x) 76)) B pb A cp l t.next) := hP3.later ((Below.refl _ _).alloc (Nat.le_refl _) _)
      have HX4 := Lib.hid (Blk.new w3 (tkC x) 76)
      clear hP3 hf3 HFX HBB HRR h10 HFY0 HBY0 hrr
      unfold tkC at *
      go_upto_region 4 with (fail)
      generalize w3.alloc (.cells #[.int .i64 x.kind, .int .i64 x.at_, .int .u64 (wd x.cls 0), .int .u64 (wd x.cls 1), .int .u64 (wd x.cls 2), .int .u64 (wd x.cls 3), .string (bs x.text), .int .i64 x.lo, .int .i64 x.hi] 76) = w4 at *
      generalize w3.heap.size = tb at *
      have HSZ : Hid (B ≤ w4.heap.size) := HP4.out.heap
      have c5 := HP4.out.cell5
      have hcr : (t.next.count : Int) = (t.count : Int) := rfl
      rw [hcr] at c5
      clear hcr
      by_cases hc : 4096 < t.count
      · have hcz : (4096 : Int) < (t.count : Int) := by omega
        have hrr := HR2.out
        rw [if_pos hc] at hrr
        subst hrr
        obtain ⟨t0, t1, t2, t3, t4, t5, t6, t7, t8⟩ := nine_cells HX4.out
        clear hc HR2 HP4
        go_wp2
        refine leaves_cons (f := 116) (args := #[.pointer (some ⟨fb, 0, none⟩)]) (by simp) (by simp [go_sem]) ?_
        have hwx := ((HFY.out.alloc (.cells #[.int .i64 9, .int .i64 x.at_] 153)).setCell 0 (.int .i64 9)).setCell 1 (.int .i64 x.at_)
        simp at hwx
        have HBX := Lib.hid (((HBY.out.alloc HSZ.out (.cells #[.int .i64 9, .int .i64 x.at_] 153)).setCell (p := ⟨fb, 0, none⟩) hbs (.int .i64 9)).setCell (p := ⟨fb, 1, none⟩) hbs (.int .i64 x.at_))
        refine (rec_panic fb _ _ 9 x.at_ [] w4 HFY.out).mono ?_
        rintro e' u' w'' ⟨rfl, rfl, hww⟩
        rw [← hww] at hwx HBX
        have x0 := hwx.cell 0
        have x1 := hwx.cell 1
        simp at x0 x1
        simp [Leaves, settle, results, Tryz.results86, go_sem, x0, x1]
        exact ⟨rfl, HBX.out⟩
      · have hcz : ¬ (4096 : Int) < (t.count : Int) := by omega
        have hrr := HR2.out
        rw [if_neg hc] at hrr
        subst hrr
        clear hc HR2 HX4
        have f0 := HFY.out.cell 0
        have f1 := HFY.out.cell 1
        have ff := HFY.out.frozen
        simp at f0 f1
        have h5 := (HFY.out.setCell 0 (.int .i64 0)).setCell 1 (.int .i64 0)
        simp at h5
        have HFZ := Lib.hid h5
        have HBZ := Lib.hid ((HBY.out.setCell (p := ⟨fb, 0, none⟩) hbs (.int .i64 0)).setCell (p := ⟨fb, 1, none⟩) hbs (.int .i64 0))
        have HPZ := Lib.hid ((HP4.out.boxF HFY.out hbs 0 (.int .i64 0)).boxF (HFY.out.setCell 0 (.int .i64 0)) hbs 1 (.int .i64 0))
        clear h5 HFY HBY HP4
        go_wp2
        generalize (w4.setCell ⟨fb, 0, none⟩ (.int .i64 0)).setCell ⟨fb, 1, none⟩ (.int .i64 0) = w5 at *
        have HSZ : Hid (B ≤ w5.heap.size) := HPZ.out.heap
        have HPX := Lib.hid (HPZ.out.later ((Below.refl _ _).alloc (Nat.le_refl _) (.cells #[.int .i64 0, .int .i64 0] 153)))
        refine leaves_cons (f := 116) (args := #[.pointer (some ⟨fb, 0, none⟩)]) (by simp) (by simp [go_sem]) ?_
        have hwx := ((HFZ.out.alloc (.cells #[.int .i64 0, .int .i64 0] 153)).setCell 0 (.int .i64 0)).setCell 1 (.int .i64 0)
        simp at hwx
        have HBX := Lib.hid (((HBZ.out.alloc HSZ.out (.cells #[.int .i64 0, .int .i64 0] 153)).setCell (p := ⟨fb, 0, none⟩) hbs (.int .i64 0)).setCell (p := ⟨fb, 1, none⟩) hbs (.int .i64 0))
        refine (rec_quiet fb _ _ w5 HFZ.out).mono ?_
        rintro e' u' w'' ⟨rfl, rfl, hww⟩
        rw [← hww] at hwx HBX
        have x0 := hwx.cell 0
        have x1 := hwx.cell 1
        simp at x0 x1
        have hf9 := HFZ.out.alloc (.cells #[.int .i64 0, .int .i64 0] 153)
        have HPY := Lib.hid ((HPX.out.boxF hf9 hbs 0 (.int .i64 0)).boxF (hf9.setCell 0 (.int .i64 0)) hbs 1 (.int .i64 0))
        rw [← hww] at HPY
        simp [Leaves, settle, results, Tryz.results86, go_sem, x0, x1]
        exact ⟨rfl, HPY.out, HBX.out⟩
    · have hrr := HRR.out
      rw [if_neg h10] at hq hrr
      obtain ⟨e, p, hfp, rfl, hf3⟩ := hq
      rw [hfp] at hrr
      subst hrr
      have HFY := Lib.hid (hf3.typ _ _ HFX.out)
      have HBY := Lib.hid (HBB.out.trans hf3.bel)
      have HSZ : Hid (B ≤ w3.heap.size) := Nat.le_trans hbs (Nat.le_of_lt HFY.out.lt)
      clear hf3 HFX HBB HRR hfp h10
      unfold ftE
      simp only []
      refine leaves_cons (f := 116) (args := #[.pointer (some ⟨fb, 0, none⟩)]) (by simp) (by simp [go_sem]) ?_
      have hwx := ((HFY.out.alloc (.cells #[.int .i64 e, .int .i64 p] 153)).setCell 0 (.int .i64 e)).setCell 1 (.int .i64 p)
      simp at hwx
      have HBX := Lib.hid (((HBY.out.alloc HSZ.out (.cells #[.int .i64 e, .int .i64 p] 153)).setCell (p := ⟨fb, 0, none⟩) hbs (.int .i64 e)).setCell (p := ⟨fb, 1, none⟩) hbs (.int .i64 p))
      refine (rec_panic fb _ _ e p [] w3 HFY.out).mono ?_
      rintro e' u' w'' ⟨rfl, rfl, hww⟩
      rw [← hww] at hwx HBX
      have x0 := hwx.cell 0
      have x1 := hwx.cell 1
      simp at x0 x1
      simp [Leaves, settle, results, Tryz.results86, go_sem, x0, x1]
      exact ⟨rfl, HBX.out⟩
def PParse (w : World) (r : PR) (e : Ending) (w' : World) : Prop := match r with
  | .ok k t => ∃ nv av, e = .returned (.tuple #[.agg #[nv], av, .int .i64 0, .int .i64 0]) ∧ OwnN w' w.heap.size nv t.nodes ∧ OwnI w' w.heap.size av t.ats ∧ Below w.heap.size w w'
  | .bad er p => e = .returned (.tuple #[.agg #[.slice none 0 0], .slice none 0 0, .int .i64 er, .int .i64 p]) ∧ Below w.heap.size w w'
  | .out => False
theorem own_base {w : World} {base base' size n : Nat} {e : TypeId} {v : Value} {xs : List Value} (h : w.ownsRow base e size v n xs) (hb : base' ≤ base) : w.ownsRow base' e size v n xs := by
  obtain ⟨h0, ⟨hv, hn⟩ | ⟨g, cap, cur, hv, hg, hr⟩⟩ := h
  · exact ⟨h0, .inl ⟨hv, hn⟩⟩
  · exact ⟨h0, .inr ⟨g, cap, cur, hv, Nat.le_trans hb hg, hr⟩⟩
set_option maxHeartbeats 4000000 in
set_option maxRecDepth 100000 in
theorem parse_any {l : List Tk} (hl : TkTxt' l) (he : TEnds l) (hlen : l.length < 16777216) (A : Option Addr) (c : Nat) (w : World) (hrow : TkRow w A l) :
    Calls Tryz.prog 53 #[.slice A l.length c] w (PParse w (parseP l)) := by
  have hlow : ∀ b o, A = some ⟨b, o, none⟩ → b < w.heap.size + 1 := fun b o hA => by
    obtain ⟨b', o', h1, h2, _⟩ := hrow 0 he.pos
    rw [hA] at h1; cases h1; omega
  have HB1 := (Below.refl w.heap.size w).alloc (Nat.le_refl _) (.cells #[.slice none 0 0] 25)
  have HB2 := HB1.alloc (by simp) (.cells #[.slice A l.length c, .int .i64 0, .slice none 0 0, .slice none 0 0, .slice none 0 0, .int .i64 0] 151)
  have HD : Hid (Blk ((w.alloc (.cells #[.slice none 0 0] 25)).alloc (.cells #[.slice A l.length c, .int .i64 0, .slice none 0 0, .slice none 0 0, .slice none 0 0, .int .i64 0] 151)) w.heap.size #[.slice none 0 0] 25) := (Blk.new w _ _).alloc _
  have HP : Hid (Pst ((w.alloc (.cells #[.slice none 0 0] 25)).alloc (.cells #[.slice A l.length c, .int .i64 0, .slice none 0 0, .slice none 0 0, .slice none 0 0, .int .i64 0] 151)) (w.heap.size + 1) (w.heap.size + 1) A c l {}) :=
    ⟨.slice none 0 0, .slice none 0 0, .slice none 0 0, Blk.new' (by simp) _ _, ⟨rfl, .inl ⟨rfl, rfl⟩⟩, ⟨rfl, .inl ⟨rfl, rfl⟩⟩, ⟨rfl, .inl ⟨rfl, rfl⟩⟩, fun g hg => (by cases hg), hrow.later HB2, hlow, Nat.le_refl _, by omega, by simp, by simp, by simp⟩
  have HB := Lib.hid HB2
  obtain ⟨r, hr⟩ : ∃ r, parseP l = r := ⟨_, rfl⟩
  have HR : Hid (∀ w B pb, Pst w B pb A c l {} → Calls Tryz.prog 86 #[.pointer (some ⟨pb, 0, none⟩)] w (PrunPost B pb A c l w r)) := fun w B pb h => by
    have q := prun_any hl he h
    rw [hr] at q; exact q
  rw [hr]
  have HN : Hid (∀ er p, r = .bad er p → er ≠ 0) := fun er p h => by rw [h] at hr; have := parse_err hr; omega
  clear hr hrow hlow HB1 HB2
  go_enter Tryz.func53, Tryz.ntmps53
  go_upto_region 2 with (fail)
  generalize (w.alloc (.cells #[.slice none 0 0] 25)).alloc (.cells #[.slice A l.length c, .int .i64 0, .slice none 0 0, .slice none 0 0, .slice none 0 0, .int .i64 0] 151) = w1 at *
  generalize hdb : w.heap.size = db at *
  have HDB := Lib.hid hdb
  clear hdb
  go_wp2_with fail
  refine (HR.out w1 _ _ HP.out).mono ?_; intro e2 w2 hq
  cases r with
  | out => exact absurd hq id
  | bad e p =>
    obtain ⟨rfl, hb2⟩ := hq
    have hne : (e != 0) = true := by rw [bne_iff_ne]; exact HN.out e p rfl
    have HB2 := Lib.hid (HB.out.trans (hb2.mono (Nat.le_succ _)))
    have HD2 : Hid (Blk w2 db #[.slice none 0 0] 25) := (hb2.block db (Nat.lt_succ_self _)).trans HD.out
    clear hb2 HN HR HP HD HB
    unfold ftV
    go_upto_region 3 with (fail)
    have HF3 := Lib.hid (Blk.new w2 #[.int .i64 e, .int .i64 p] 153)
    have HD3 : Hid (Blk (w2.alloc (.cells #[.int .i64 e, .int .i64 p] 153)) db #[.slice none 0 0] 25) := HD2.out.alloc _
    have HB3 : Hid (Below db w (w2.alloc (.cells #[.int .i64 e, .int .i64 p] 153))) := HB2.out.alloc (Nat.le_of_lt HD2.out.lt) _
    generalize w2.alloc (.cells #[.int .i64 e, .int .i64 p] 153) = w3 at *
    generalize w2.heap.size = fb at *
    clear HD2 HB2
    have c0 := HF3.out.cell 0
    have c1 := HF3.out.cell 1
    have d0 := HD3.out.cell 0
    have df := HD3.out.frozen
    simp at c0 c1 d0
    have n1 : fb ≠ db := Blk.typed2 HF3.out HD3.out (by decide)
    have n2 : db ≠ fb := Ne.symm n1
    go_upto_region 4 with (fail)
    go_region
    go_wp2
    have x0 := (HD3.out.setCell 0 (.slice none 0 0)).cell 0
    simp at x0
    exact bodyPost_ret (v := .tuple #[.agg #[.slice none 0 0], .slice none 0 0, .int .i64 e, .int .i64 p]) (by simp [results, Tryz.results53, go_sem, d0]) rfl (by
      unfold PParse
      rw [HDB.out]
      exact ⟨rfl, (HB3.out.setCell (p := ⟨db, 0, none⟩) (Nat.le_refl _) (.slice none 0 0)).drew⟩)
  | ok k t =>
    obtain ⟨rfl, hP2, hb2⟩ := hq
    have hne : ((0 : Int) != 0) = false := rfl
    have HB2 := Lib.hid (HB.out.trans (hb2.mono (Nat.le_succ _)))
    have HD2 : Hid (Blk w2 db #[.slice none 0 0] 25) := (hb2.block db (Nat.lt_succ_self _)).trans HD.out
    obtain ⟨ov, nv, av, h0⟩ := hP2
    obtain ⟨an, kn, rfl, -⟩ := h0.nodes.row
    obtain ⟨aa, ka, rfl, -⟩ := h0.ats.row
    have H0 := Lib.hid h0
    clear hb2 HN HR HP HD HB h0
    unfold ftV
    go_upto_region 3 with (fail)
    have HF3 := Lib.hid (Blk.new w2 #[.int .i64 0, .int .i64 0] 153)
    have HD3 : Hid (Blk (w2.alloc (.cells #[.int .i64 0, .int .i64 0] 153)) db #[.slice none 0 0] 25) := HD2.out.alloc _
    have HB3 : Hid (Below db w (w2.alloc (.cells #[.int .i64 0, .int .i64 0] 153))) := HB2.out.alloc (Nat.le_of_lt HD2.out.lt) _
    have H3 := Lib.hid (H0.out.later ((Below.refl _ _).alloc (Nat.le_refl _) (.cells #[.int .i64 0, .int .i64 0] 153)))
    generalize w2.alloc (.cells #[.int .i64 0, .int .i64 0] 153) = w3 at *
    generalize w2.heap.size = fb at *
    clear HD2 HB2 H0
    have c0 := HF3.out.cell 0
    have c1 := HF3.out.cell 1
    have d0 := HD3.out.cell 0
    have df := HD3.out.frozen
    have p3 := H3.out.blk.cell 3
    have p4 := H3.out.blk.cell 4
    simp at c0 c1 d0 p3 p4
    have n1 : fb ≠ db := Blk.typed2 HF3.out HD3.out (by decide)
    have n2 : db ≠ fb := Ne.symm n1
    have n3 : db + 1 ≠ db := by omega
    have n4 : db ≠ db + 1 := by omega
    have HN5 : Hid (OwnN (w3.setCell ⟨db, 0, none⟩ (.slice an t.nodes.length kn)) db (.slice an t.nodes.length kn) t.nodes) := own_base (own_set H3.out.nodes (own_typed H3.out.nodes HD3.out (by decide)) _) (Nat.le_succ _)
    have HA5 : Hid (OwnI (w3.setCell ⟨db, 0, none⟩ (.slice an t.nodes.length kn)) db (.slice aa t.ats.length ka) t.ats) := own_base (own_set H3.out.ats (own_typed H3.out.ats HD3.out (by decide)) _) (Nat.le_succ _)
    go_upto_region 5 with (fail)
    go_region
    go_wp2
    exact bodyPost_ret (v := .tuple #[.agg #[.slice an t.nodes.length kn], .slice aa t.ats.length ka, .int .i64 0, .int .i64 0]) (by simp [results, Tryz.results53, go_sem, d0]) rfl (by
      unfold PParse
      rw [HDB.out]
      exact ⟨_, _, rfl, HN5.out, HA5.out, (HB3.out.setCell (p := ⟨db, 0, none⟩) (Nat.le_refl _) _).drew⟩)
set_option maxRecDepth 100000
structure PaS (w0 : World) (A : Option Addr) (l : List Tk) (db : Nat) (w : World) : Prop where
  tk : TkB w0 A l w
  res : Blk w db #[.slice none 0 0] 25
theorem PaS.later {w0 w w' : World} {A : Option Addr} {l : List Tk} {db : Nat} (h : PaS w0 A l db w) (hb : Below w.heap.size w w') : PaS w0 A l db w' := ⟨h.tk.later hb, h.res.later hb⟩
def PaL (w0 : World) (A : Option Addr) (l : List Tk) (db f : Nat) (x y : Value) (w : World) : Prop := ∃ (i : Nat) (q : Int), i ≤ f ∧ x = .int .i64 q ∧ y = .int .i64 (i : Int) ∧ OpF l f i q ∧ PaS w0 A l db w
set_option maxHeartbeats 16000000 in
theorem rparse5_any {l : List Tk} (he : TEnds l) (hl : l.length ≤ 1000) (hk : TkOk l) (hM : ∀ p, (tkAt l p).text.length ≤ 281474976710656) (hat : ∀ p, 0 ≤ (tkAt l p).at_) (A : Option Addr) (c : Nat) (hcap : l.length ≤ c) (w : World) (hrow : TkRow w A l) :
    Calls Tryz.prog 23 #[.slice A l.length c] w (PParse w (parseP l)) := by
  obtain ⟨r, hr⟩ : ∃ r, parseP l = r := ⟨_, rfl⟩
  obtain ⟨f, hf, hm⟩ := parse_twin he
  rw [hr] at hm ⊢
  clear hr
  obtain ⟨bb, oo, hA, -, -⟩ := hrow 0 he.pos
  subst hA
  have HFT : Hid (∀ w', TkRow w' (some ⟨bb, oo, none⟩) l → Calls Tryz.prog 38 #[.slice (some ⟨bb, oo, none⟩) l.length c] w' (Ans w' (.int .i64 (f : Int)))) := fun w' h => (rfault5_any l _ c (by omega) w' h).mono (fun e w'' hp => by obtain ⟨g, rfl, hg, hb⟩ := hp; rw [hg.one hf]; exact ⟨rfl, hb⟩)
  have HDP : Hid (∀ w', TkRow w' (some ⟨bb, oo, none⟩) l → Calls Tryz.prog 39 #[.slice (some ⟨bb, oo, none⟩) f c] w' (Ans w' (dpV l f))) := fun w' h => rdeep5_any l _ c f hf.le (by omega) w' h
  have HMT : Hid (∀ i : Nat, i < f → ∀ w', TkRow w' (some ⟨bb, oo, none⟩) l → Calls Tryz.prog 40 #[.slice (some ⟨bb, oo, none⟩) f c, .int .i64 (i : Int)] w' (MtP l f i w')) := fun i hi w' h => rmatch_any l _ c f i hf.le (by omega) (by omega) w' h
  have HOR : Hid (∀ D Q, Dv l .or 0 (l.length - 1) D Q → ∀ w', TkRow w' (some ⟨bb, oo, none⟩) l → Calls Tryz.prog 41 #[.slice (some ⟨bb, oo, none⟩) l.length c, .int .i64 0, .int .i64 ((l.length : Int) - 1)] w' (PtP w' D Q)) := fun D Q hd w' h => by
    have hpos := he.pos
    have q := or_ok l (some ⟨bb, oo, none⟩) c hl hk hM hd (by omega) (by have := he.last; omega) (by have := he.last; omega) w' h
    rwa [show ((l.length - 1 : Nat) : Int) = (l.length : Int) - 1 by omega] at q
  have HAT := Lib.hid hat
  have HF := Lib.hid hf
  have HPOS : 0 < l.length := he.pos
  have hfl : f ≤ l.length := hf.le
  have hfz : (f : Int) ≤ (l.length : Int) := by omega
  have hfc : (f : Int) ≤ (c : Int) := by omega
  have HMN : Hid (min (f : Int) (l.length : Int) = (f : Int)) := by unfold Hid; omega
  have hlz : (l.length : Int) ≤ 1000 := by omega
  have hb1 := (Below.refl w.heap.size w).alloc (Nat.le_refl _) (.cells #[.slice none 0 0] 25)
  have HS0 : Hid (PaS w (some ⟨bb, oo, none⟩) l w.heap.size (w.alloc (.cells #[.slice none 0 0] 25))) := ⟨⟨hb1, hrow.later hb1⟩, Blk.new _ _ _⟩
  have HM := Lib.hid hm
  clear hrow hb1 hm hat hf hk hM he
  go_enter Tryz.func23, Tryz.ntmps23
  go_upto_region 1 with (fail)
  generalize w.alloc (.cells #[.slice none 0 0] 25) = w1 at *
  obtain ⟨db, hdb⟩ : ∃ db, db = w.heap.size := ⟨_, rfl⟩
  rw [← hdb] at HS0 ⊢
  have HLB : Hid (w.heap.size ≤ db) := by rw [hdb]; exact Nat.le_refl _
  clear hdb
  go_wp2_with fail
  refine (HFT.out _ HS0.out.tk.row).mono ?_; rintro e w2 ⟨rfl, hb⟩
  have HS := Lib.hid (HS0.out.later hb)
  clear hb HS0 HFT
  cases hdf : deepF l f with
  | some i =>
    have HMS := HM.out
    rw [hdf] at HMS
    have HRR : Hid (r = .bad 8 (tkAt l i).at_) := HMS
    clear HM HMS
    have HDV : Hid (dpV l f = .tuple #[.int .i64 (tkAt l i).at_, .bool true]) := by unfold Hid dpV; rw [hdf]
    rw [HDV.out] at HDP
    clear hdf HDV
    generalize (tkAt l i).at_ = ai at *
    go_wp2_with fail
    rw [HMN.out, Int.toNat_natCast]
    refine (HDP.out _ HS.out.tk.row).mono ?_; rintro e w3 ⟨rfl, hb⟩
    have HS3 := Lib.hid (HS.out.later hb)
    have HFIN : Hid (Below w.heap.size w (w3.setCell ⟨db, 0, none⟩ (.slice none 0 0))) := HS3.out.tk.bel.setCell (p := ⟨db, 0, none⟩) HLB.out _
    have d0 := HS3.out.res.cell 0
    have df := HS3.out.res.frozen
    simp at d0
    clear hb
    clear HS HDP HMT HOR
    go_wp2
    exact bodyPost_ret (v := .tuple #[.agg #[.slice none 0 0], .slice none 0 0, .int .i64 8, .int .i64 ai]) (by simp [results, Tryz.results23, go_sem, d0, df]) rfl (by rw [HRR.out]; exact ⟨rfl, HFIN.out⟩)
  | none =>
    have HMS := HM.out
    rw [hdf] at HMS
    have HM := HMS
    have HML := Lib.hid HM
    clear HM HMS
    have HDV : Hid (dpV l f = .tuple #[.int .i64 0, .bool false]) := by unfold Hid dpV; rw [hdf]
    rw [HDV.out] at HDP
    clear hdf HDV
    go_wp2_with fail
    rw [HMN.out, Int.toNat_natCast]
    refine (HDP.out _ HS.out.tk.row).mono ?_; rintro e w3 ⟨rfl, hb⟩
    have HS3 := Lib.hid (HS.out.later hb)
    clear hb HS HDP
    by_cases hlt : f < l.length
    · have HMF := HML.out
      simp only [hlt, if_true] at HMF
      have HMB := Lib.hid HMF
      clear HML HMF HOR
      have hltz : (f : Int) < (l.length : Int) := by omega
      go_upto_region 7 with (fail)
      have HL : Hid (PaL w (some ⟨bb, oo, none⟩) l db f (.int .i64 (-1)) (.int .i64 0) w3) := ⟨0, -1, Nat.zero_le _, rfl, rfl, OpF.zero l f, HS3.out⟩
      clear HS3
      go_wp2
      go_loopw [9, 10] (PaL w (some ⟨bb, oo, none⟩) l db f) (fun _ z _ => f - (intOf z).toNat)
      case atStart => exact HL.out
      case round =>
        obtain ⟨i, q, hi, rfl, rfl, hop, hs⟩ := hrel
        have HS := Lib.hid hs
        have HOP := Lib.hid hop
        clear hs hop HL
        by_cases hlt2 : i < f
        · have hkz : (i : Int) < (f : Int) := by omega
          have hkl : (i : Int) < (l.length : Int) := by omega
          have g := (HS.out.tk.row.at (i := i) (by omega) rfl).1
          by_cases h3 : (tkAt l i).kind = 3
          · rw [h3] at g
            have H3 := Lib.hid h3
            clear h3
            go_wp2_with fail
            (try rw [Int.toNat_natCast])
            refine (HMT.out i hlt2 _ HS.out.tk.row).mono ?_; rintro e w4 ⟨k, rfl, hk, hb⟩
            have HS4 := Lib.hid (HS.out.later hb)
            have HKM := Lib.hid (unm_match hlt2 H3.out hk)
            clear hb hk g HS
            by_cases hkf : k = f
            · have HNL : Hid (OpF l f (i + 1) (tkAt l i).at_) := OpF.hit H3.out (HKM.out.1 hkf)
              subst hkf
              clear HOP HKM
              have g := (HS4.out.tk.row.at (i := i) (by omega) rfl).2.1
              go_wp2
              go_roundw
              case rel => exact ⟨i + 1, _, by omega, rfl, by go_num, HNL.out, HS4.out⟩
              case measure => simp [intOf]; omega
            · have HNL : Hid (OpF l f (i + 1) q) := HOP.out.same (fun h => hkf (HKM.out.2 h.2))
              have kfb : ((k : Int) == (f : Int)) = false := by rw [beq_eq_false_iff_ne]; omega
              clear HOP HKM hkf
              go_wp2
              go_roundw
              case rel => exact ⟨i + 1, _, by omega, rfl, by go_num, HNL.out, HS4.out⟩
              case measure => simp [intOf]; omega
          · have HNL : Hid (OpF l f (i + 1) q) := HOP.out.same (fun h => h3 h.1)
            have q3 : ((tkAt l i).kind == 3) = false := beq_false_of_ne h3
            clear HOP h3
            generalize (tkAt l i).kind = t at *
            go_wp2
            go_roundw
            case rel => exact ⟨i + 1, _, by omega, rfl, by go_num, HNL.out, HS.out⟩
            case measure => simp [intOf]; omega
        · obtain rfl : f = i := by omega
          have hkz : ¬ (f : Int) < (f : Int) := by omega
          have hd := HOP.out.done HF.out.seg
          obtain ⟨g0, g1, -⟩ := HS.out.tk.row.at (i := f) hlt rfl
          have HFIN : Hid (Below w.heap.size w (wr.setCell ⟨db, 0, none⟩ (.slice none 0 0))) := HS.out.tk.bel.setCell (p := ⟨db, 0, none⟩) HLB.out _
          have d0 := HS.out.res.cell 0
          have df := HS.out.res.frozen
          simp at d0
          clear HOP hlt2
          by_cases h10 : (tkAt l f).kind = 10
          · rw [h10] at g0
            rcases hd with ⟨h1, rfl⟩ | ⟨h1, h2, j, h3, h4⟩
            · have HRR : Hid (r = .bad 7 (tkAt l f).at_) := by have := HMB.out; rw [if_neg (fun h => h.2 h1)] at this; exact this
              clear h1 h10 HMB
              generalize (tkAt l f).at_ = ai at *
              clear HS HMT
              go_upto_region 14 with (fail)
              go_region
              go_wp2
              exact bodyPost_ret (v := .tuple #[.agg #[.slice none 0 0], .slice none 0 0, .int .i64 7, .int .i64 ai]) (by simp [results, Tryz.results23, go_sem, d0, df]) rfl (by rw [HRR.out]; exact ⟨rfl, HFIN.out.drew⟩)
            · have HRR : Hid (r = .bad 6 q) := by have := HMB.out; rw [if_pos ⟨h10, h1⟩, h2] at this; exact this
              have hq : 0 ≤ q := by rw [h4]; exact HAT.out j
              have hqz : decide (q < 0) = false := by simpa using hq
              clear h1 h2 h3 h4 h10 HMB g1
              clear HS HMT
              go_wp2
              exact bodyPost_ret (v := .tuple #[.agg #[.slice none 0 0], .slice none 0 0, .int .i64 6, .int .i64 q]) (by simp [results, Tryz.results23, go_sem, d0, df]) rfl (by rw [HRR.out]; exact ⟨rfl, HFIN.out⟩)
          · have HRR : Hid (r = .bad 7 (tkAt l f).at_) := by have := HMB.out; rw [if_neg (fun h => h10 h.1)] at this; exact this
            have q10 : ((tkAt l f).kind == 10) = false := beq_false_of_ne h10
            clear h10 HMB hd
            generalize (tkAt l f).kind = t at *
            generalize (tkAt l f).at_ = ai at *
            clear HS HMT
            go_upto_region 14 with (fail)
            go_region
            go_wp2
            exact bodyPost_ret (v := .tuple #[.agg #[.slice none 0 0], .slice none 0 0, .int .i64 7, .int .i64 ai]) (by simp [results, Tryz.results23, go_sem, d0, df]) rfl (by rw [HRR.out]; exact ⟨rfl, HFIN.out.drew⟩)
    · have HMF := HML.out
      simp only [hlt, if_false] at HMF
      obtain ⟨D, B, hd, hr⟩ := HMF
      have HRD := Lib.hid hr
      have hltz : ¬ (f : Int) < (l.length : Int) := by omega
      clear HML HMT hr
      go_wp2_with fail
      refine (HOR.out D B hd _ HS3.out.tk.row).mono ?_; rintro e w4 ⟨nv, av, rfl, ho, hi, hb⟩
      have HS4 := Lib.hid (HS3.out.later hb)
      have hlo := HS3.out.tk.bel.size
      obtain ⟨an, kn, rfl, -⟩ := ho.row
      obtain ⟨aa, ka, rfl, -⟩ := hi.row
      have hb2 := (Below.refl w4.heap.size w4).alloc (Nat.le_refl _) (.cells #[.slice an D.length kn, .slice aa B.length ka] 83)
      have HS5 := Lib.hid (HS4.out.later hb2)
      have HN5 := Lib.hid ((ho.later hb2).weaken hlo)
      have HI5 := Lib.hid (own_low (hi.later hb2) hlo)
      have HB5 := Lib.hid (Blk.new w4 #[.slice an D.length kn, .slice aa B.length ka] 83)
      clear hb hb2 ho hi hd HOR HS3 HS4 hlo
      go_upto_region 16 with (fail)
      generalize w4.alloc (.cells #[.slice an D.length kn, .slice aa B.length ka] 83) = w5 at *
      generalize w4.heap.size = pb at *
      have p0 := HB5.out.cell 0
      have p1 := HB5.out.cell 1
      have f0 := HB5.out.frozen 0
      have f1 := HB5.out.frozen 1
      have d0 := HS5.out.res.cell 0
      have df := HS5.out.res.frozen
      simp at p0 p1 d0
      have n1 : pb ≠ db := Blk.typed2 HB5.out HS5.out.res (by decide)
      have n2 : db ≠ pb := Ne.symm n1
      by_cases h9 : 4096 < D.length
      · have HRR := HRD.out
        rw [if_pos h9] at HRR
        have HRR := Lib.hid HRR
        have h9z : (4096 : Int) < (D.length : Int) := by omega
        have g1 := (HS5.out.tk.row.at (i := l.length - 1) (by omega) rfl).2.1
        have HFIN : Hid (Below w.heap.size w (w5.setCell ⟨db, 0, none⟩ (.slice none 0 0))) := HS5.out.tk.bel.setCell (p := ⟨db, 0, none⟩) HLB.out _
        clear HRD HN5 HI5 HB5 HS5
        generalize (tkAt l (l.length - 1)).at_ = ai at *
        go_upto_region 17 with (fail)
        go_region
        go_wp2
        exact bodyPost_ret (v := .tuple #[.agg #[.slice none 0 0], .slice none 0 0, .int .i64 9, .int .i64 ai]) (by simp [results, Tryz.results23, go_sem, d0, df]) rfl (by rw [HRR.out]; exact ⟨rfl, HFIN.out.drew⟩)
      · have HRR := HRD.out
        rw [if_neg h9] at HRR
        obtain ⟨k, t, hr, hn, ha⟩ := HRR
        have HRR : Hid (r = .ok k t ∧ t.nodes = D ∧ t.ats = B) := ⟨hr, hn, ha⟩
        have h9z : ¬ (4096 : Int) < (D.length : Int) := by omega
        have HNF : Hid (OwnN (w5.setCell ⟨db, 0, none⟩ (.slice an D.length kn)) w.heap.size (.slice an D.length kn) D) := own_set HN5.out (own_typed HN5.out HS5.out.res (by decide)) _
        have HIF : Hid (OwnI (w5.setCell ⟨db, 0, none⟩ (.slice an D.length kn)) w.heap.size (.slice aa B.length ka) B) := own_set HI5.out (own_typed HI5.out HS5.out.res (by decide)) _
        have HFIN : Hid (Below w.heap.size w (w5.setCell ⟨db, 0, none⟩ (.slice an D.length kn))) := HS5.out.tk.bel.setCell (p := ⟨db, 0, none⟩) HLB.out _
        clear HRD hr hn ha HN5 HI5
        go_upto_region 18 with (fail)
        go_region
        go_wp2
        exact bodyPost_ret (v := .tuple #[.agg #[.slice an D.length kn], .slice aa B.length ka, .int .i64 0, .int .i64 0]) (by simp [results, Tryz.results23, go_sem, d0, df]) rfl (by
          obtain ⟨h1, h2, h3⟩ := HRR.out
          subst h2
          subst h3
          rw [h1]
          exact ⟨_, _, rfl, HNF.out, HIF.out, HFIN.out.drew⟩)
end Go.Proofs.YtcgjmnhmhiddkaaGreatDoor
