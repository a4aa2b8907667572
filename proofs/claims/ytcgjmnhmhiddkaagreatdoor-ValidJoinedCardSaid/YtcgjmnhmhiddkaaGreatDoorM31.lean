/- Descriptions out of tokens: how many nodes are counted; how many are kept. -/
import Derived.Test.YtcgjmnhmhiddkaaGreatDoorM12
import Derived.Test.YtcgjmnhmhiddkaaGreatDoorM30
namespace Go.Proofs.YtcgjmnhmhiddkaaGreatDoor
open Go
set_option linter.unusedVariables false
set_option linter.unusedSimpArgs false

def moreM : Md → Nat
  | .orL _ => 0 | .rowL _ => 0 | .postL _ => 0 | .inside => 0 | _ => 1
def lessM : Md → Nat
  | .inside => 1 | _ => 0
theorem run_count {l : List Tk} : ∀ (n : Nat) (m : Md) (s : PS) (k : Int) (t : PS), run l n m s = .ok k t → t.count + moreM m + 2 * s.read ≤ s.count + 2 * t.read + lessM m
  | 0, _, _, _, _, h => by cases h
  | n + 1, m, s, k, t, h => by
    cases m with
    | or =>
      obtain ⟨a, u, h1, h2⟩ := bind_ok h
      have q1 := run_count n _ _ _ _ h1
      have q2 := run_count n _ _ _ _ h2
      simp only [moreM, lessM] at *; omega
    | orL a =>
      simp only [run] at h
      split at h
      · obtain ⟨b, u, h1, h2⟩ := bind_ok h
        have q1 := run_count n _ _ _ _ h1
        have q2 := run_count n _ _ _ _ h2
        have q3 := lay_read u { kind := 5, a := a, b := b } (-1)
        simp only [moreM, lessM, PS.next] at *; omega
      · cases h; simp only [moreM, lessM]; omega
    | row =>
      obtain ⟨a, u, h1, h2⟩ := bind_ok h
      have q1 := run_count n _ _ _ _ h1
      have q2 := run_count n _ _ _ _ h2
      simp only [moreM, lessM] at *; omega
    | rowL a =>
      simp only [run] at h
      split at h
      · obtain ⟨b, u, h1, h2⟩ := bind_ok h
        have q1 := run_count n _ _ _ _ h1
        have q2 := run_count n _ _ _ _ h2
        have q3 := lay_read u { kind := 4, a := a, b := b } (-1)
        simp only [moreM, lessM] at *; omega
      · cases h; simp only [moreM, lessM]; omega
    | post =>
      obtain ⟨a, u, h1, h2⟩ := bind_ok h
      have q1 := run_count n _ _ _ _ h1
      have q2 := run_count n _ _ _ _ h2
      simp only [moreM, lessM] at *; omega
    | postL a =>
      simp only [run] at h
      split at h
      · have q2 := run_count n _ _ _ _ h
        have q3 := lay_read s { kind := 6, a := a } (tkAt l s.read).at_
        simp only [moreM, lessM, PS.next] at *; omega
      · split at h
        · have q2 := run_count n _ _ _ _ h
          have q3 := lay_read s { kind := 7, a := a, lo := (tkAt l s.read).lo, hi := (tkAt l s.read).hi } (tkAt l s.read).at_
          simp only [moreM, lessM, PS.next] at *; omega
        · cases h; simp only [moreM, lessM]; omega
    | atom =>
      simp only [run] at h
      split at h
      · cases h
        have q3 := lay_read s.next { kind := 2, cls := (tkAt l s.read).cls } (-1)
        simp only [moreM, lessM, PS.next] at *; omega
      · split at h
        · cases h
          have q3 := lay_read s.next { kind := 3, text := (tkAt l s.read).text } (-1)
          simp only [moreM, lessM, PS.next] at *; omega
        · split at h
          · have q := run_count n _ _ _ _ h
            simp only [moreM, lessM] at *; omega
          · split at h
            · obtain ⟨b, u, h1, h2⟩ := bind_ok h
              cases h2
              have q1 := run_count n _ _ _ _ h1
              have q3 := lay_read u { kind := 8, a := b } (-1)
              simp only [moreM, lessM, PS.next] at *; omega
            · split at h
              · obtain ⟨b, u, h1, h2⟩ := bind_ok h
                cases h2
                have q1 := run_count n _ _ _ _ h1
                have q3 := lay_read u { kind := 9, a := b } (-1)
                simp only [moreM, lessM, PS.next] at *; omega
              · exact absurd h fault_not_ok
    | group =>
      simp only [run] at h
      split at h
      · split at h
        · cases h
        · obtain ⟨b, u, h1, h2⟩ := bind_ok h
          split at h2
          · cases h2
            have q1 := run_count n _ _ _ _ h1
            simp only [moreM, lessM, PS.next] at *; omega
          · exact absurd h2 fault_not_ok
      · exact absurd h fault_not_ok
    | inside =>
      simp only [run] at h
      split at h
      · cases h
        have q3 := lay_read s { kind := 1 } (-1)
        simp only [moreM, lessM] at *; omega
      · have q := run_count n _ _ _ _ h
        simp only [moreM, lessM] at *; omega
/-- As many places as nodes are kept, and no more than are counted. -/
def Kept (s : PS) : Prop := s.nodes.length = s.ats.length ∧ s.nodes.length ≤ s.count
theorem Kept.lay {s : PS} (h : Kept s) (n : Nd) (p : Int) : Kept (s.lay n p) := by
  unfold Kept at *
  unfold PS.lay
  split
  · simp only [List.length_append, List.length_cons, List.length_nil]; omega
  · simp only; omega
theorem Kept.next {s : PS} (h : Kept s) : Kept s.next := h
theorem run_kept {l : List Tk} : ∀ (n : Nat) (m : Md) (s : PS) (k : Int) (t : PS), run l n m s = .ok k t → Kept s → Kept t
  | 0, _, _, _, _, h, _ => by cases h
  | n + 1, m, s, k, t, h, hk => by
    have two : ∀ {m1 m2 : Md} {s1 u : PS} {a b : Int}, run l n m1 s1 = .ok a u → run l n m2 u = .ok b t → Kept s1 → Kept t := fun h1 h2 k1 => run_kept n _ _ _ _ h2 (run_kept n _ _ _ _ h1 k1)
    have twoL : ∀ {m1 m2 : Md} {s1 u : PS} {a b : Int} (x : Nd) (p : Int), run l n m1 s1 = .ok a u → run l n m2 (u.lay x p) = .ok b t → Kept s1 → Kept t := fun x p h1 h2 k1 => run_kept n _ _ _ _ h2 ((run_kept n _ _ _ _ h1 k1).lay x p)
    cases m with
    | or => obtain ⟨a, u, h1, h2⟩ := bind_ok h; exact two h1 h2 hk
    | orL a =>
      simp only [run] at h
      split at h
      · obtain ⟨b, u, h1, h2⟩ := bind_ok h; exact twoL _ _ h1 h2 hk.next
      · cases h; exact hk
    | row => obtain ⟨a, u, h1, h2⟩ := bind_ok h; exact two h1 h2 hk
    | rowL a =>
      simp only [run] at h
      split at h
      · obtain ⟨b, u, h1, h2⟩ := bind_ok h; exact twoL _ _ h1 h2 hk
      · cases h; exact hk
    | post => obtain ⟨a, u, h1, h2⟩ := bind_ok h; exact two h1 h2 hk
    | postL a =>
      simp only [run] at h
      split at h
      · exact run_kept n _ _ _ _ h (hk.lay _ _).next
      · split at h
        · exact run_kept n _ _ _ _ h (hk.lay _ _).next
        · cases h; exact hk
    | atom =>
      simp only [run] at h
      split at h
      · cases h; exact hk.next.lay _ _
      · split at h
        · cases h; exact hk.next.lay _ _
        · split at h
          · exact run_kept n _ _ _ _ h hk
          · split at h
            · obtain ⟨b, u, h1, h2⟩ := bind_ok h; cases h2; exact (run_kept n _ _ _ _ h1 hk.next).lay _ _
            · split at h
              · obtain ⟨b, u, h1, h2⟩ := bind_ok h; cases h2; exact (run_kept n _ _ _ _ h1 hk.next).lay _ _
              · exact absurd h fault_not_ok
    | group =>
      simp only [run] at h
      split at h
      · split at h
        · cases h
        · obtain ⟨b, u, h1, h2⟩ := bind_ok h
          split at h2
          · cases h2
            have q : Kept u := run_kept n _ _ _ _ h1 hk
            exact q
          · exact absurd h2 fault_not_ok
      · exact absurd h fault_not_ok
    | inside =>
      simp only [run] at h
      split at h
      · cases h; exact hk.lay _ _
      · exact run_kept n _ _ _ _ h hk
end Go.Proofs.YtcgjmnhmhiddkaaGreatDoor
/- The parser's contracts: what each call keeps. -/
namespace Go.Proofs.YtcgjmnhmhiddkaaGreatDoor
open Go Go.RowKit
set_option linter.unusedVariables false
set_option linter.unusedSimpArgs false

theorem field_tok0 (k a lo hi : Int) (c0 c1 c2 c3 : Int) (b : ByteArray) (w : World) : (Instr.field 76 (.agg #[.int .i64 k, .int .i64 a, .int .u64 c0, .int .u64 c1, .int .u64 c2, .int .u64 c3, .string b, .int .i64 lo, .int .i64 hi]) 0).run Tryz.prog w = .ok (.int .i64 k) w := by kernel_rfl
theorem field_tok1 (k a lo hi : Int) (c0 c1 c2 c3 : Int) (b : ByteArray) (w : World) : (Instr.field 76 (.agg #[.int .i64 k, .int .i64 a, .int .u64 c0, .int .u64 c1, .int .u64 c2, .int .u64 c3, .string b, .int .i64 lo, .int .i64 hi]) 1).run Tryz.prog w = .ok (.int .i64 a) w := by kernel_rfl
def KeptO (s : PS) : Prop := Kept s ∧ s.opn.length ≤ 64
def Inv (s : PS) : Prop := s.count ≤ 2 * s.read ∧ KeptO s
theorem Inv.next {s : PS} (h : Inv s) : Inv s.next := ⟨by have := h.1; simp only [PS.next]; omega, h.2⟩
theorem run_inv {l : List Tk} {n : Nat} {m : Md} {s t : PS} {k : Int} (h : run l n m s = .ok k t) (hi : Inv s) : t.count + moreM m ≤ 2 * t.read + lessM m ∧ KeptO t := by
  have q := run_count n m s k t h
  have := hi.1
  exact ⟨by omega, run_kept n m s k t h hi.2.1, by rw [(run_read n m s k t h).2.1]; exact hi.2.2⟩
theorem Inv.lay1 {s : PS} (h : s.count + 1 ≤ 2 * s.read) (hk : KeptO s) (n : Nd) (p : Int) : Inv (s.lay n p) := by
  have q := lay_read s n p
  exact ⟨by omega, hk.1.lay n p, by rw [q.2.1]; exact hk.2⟩
theorem Inv.lay2 {s : PS} (h : Inv s) (n : Nd) (p : Int) : Inv (s.lay n p).next := by
  have q := lay_read s n p
  have := h.1
  exact ⟨by simp only [PS.next]; omega, h.2.1.lay n p, by simp only [PS.next]; rw [q.2.1]; exact h.2.2⟩
/-- What a function of the parser promises of a state. -/
def CallM (f : FuncId) (l : List Tk) (s : PS) (r : PR) : Prop := ∀ w B pb A cp, Pst w B pb A cp l s → Calls Tryz.prog f #[.pointer (some ⟨pb, 0, none⟩)] w (RunPost B pb A cp l w r)
/-- Which function reads what. -/
def fnM : Md → Option FuncId
  | .or => some 117
  | .row => some 138
  | .post => some 154
  | .atom => some 166
  | .group => some 176
  | .inside => some 183
  | _ => none
def RunC (l : List Tk) (n : Nat) : Prop := ∀ (m : Md) (f : FuncId) (s : PS), fnM m = some f → Inv s → run l n m s ≠ .out → CallM f l s (run l n m s)
section
variable {w : World} {B pb : Nat} {A : Option Addr} {cp : Nat} {l : List Tk} {s : PS} {ov nv av : Value}
theorem Pst.lay (hP : Pst w B pb A cp l s) (hc : s.count ≤ 2 * s.read + 2) (hk : KeptO s) (n : Nd) (p : Int) :
    Calls Tryz.prog 140 #[.pointer (some ⟨pb, 0, none⟩), .agg (ndC n), .int .i64 p] w (RunPost B pb A cp l w (layK s n p)) := by
  obtain ⟨ov, nv, av, h⟩ := hP
  have hr := h.rd
  have h1 := hk.1.1
  have h2 := hk.1.2
  exact lay_any h n p (by omega) (by omega) (by omega)
theorem Pst.later {w' : World} (h : Pst w B pb A cp l s) (hb : Below w.heap.size w w') : Pst w' B pb A cp l s := by
  obtain ⟨ov, nv, av, h⟩ := h
  exact ⟨ov, nv, av, h.later hb⟩
theorem Pst.token (h : Pst w B pb A cp l s) : Calls Tryz.prog 139 #[.pointer (some ⟨pb, 0, none⟩)] w (Ans w (.agg (tkC (tkAt l s.read)))) := by
  obtain ⟨ov, nv, av, h⟩ := h
  exact h.token
theorem Pst.rd (h : Pst w B pb A cp l s) : s.read ≤ 16777216 := by obtain ⟨ov, nv, av, h⟩ := h; exact h.rd
theorem Pst.long (h : Pst w B pb A cp l s) : l.length ≤ 16777216 := by obtain ⟨ov, nv, av, h⟩ := h; exact h.long
theorem Pst.base (h : Pst w B pb A cp l s) : B ≤ pb ∧ pb < w.heap.size := by obtain ⟨ov, nv, av, h⟩ := h; exact ⟨h.base, h.blk.lt⟩
theorem Pst.heap (h : Pst w B pb A cp l s) : B ≤ w.heap.size := by have := h.base; omega
theorem Pst.next (h : Pst w B pb A cp l s) (hr : s.read < 16777216) : Pst (w.setCell ⟨pb, 1, none⟩ (.int .i64 ((s.read : Int) + 1))) B pb A cp l s.next := by
  obtain ⟨ov, nv, av, h⟩ := h
  exact ⟨ov, nv, av, h.next hr⟩
/-- How many tokens are read, as the memory has it. -/
theorem Pst.cell1 (h : Pst w B pb A cp l s) : w.cell? ⟨pb, 1, none⟩ = some (.int .i64 (s.read : Int)) := by
  obtain ⟨ov, nv, av, h⟩ := h
  have := h.blk.cell 1
  simpa using this
theorem Pst.frozen (h : Pst w B pb A cp l s) (o : Nat) : w.frozen? ⟨pb, o, none⟩ = false := by
  obtain ⟨ov, nv, av, h⟩ := h
  exact h.blk.frozen o
end
def rdOf (w : World) (pb : Nat) : Nat := match w.cell? ⟨pb, 1, none⟩ with
  | some v => (intOf v).toNat
  | none => 0
theorem Pst.rdOf {w : World} {B pb : Nat} {A : Option Addr} {cp : Nat} {l : List Tk} {s : PS} (h : Pst w B pb A cp l s) : rdOf w pb = s.read := by
  unfold Go.Proofs.YtcgjmnhmhiddkaaGreatDoor.rdOf
  rw [h.cell1]
  simp [intOf]
end Go.Proofs.YtcgjmnhmhiddkaaGreatDoor
/- The parser's or: walked. -/
namespace Go.Proofs.YtcgjmnhmhiddkaaGreatDoor
open Go Go.RowKit
set_option linter.unusedVariables false
set_option linter.unusedSimpArgs false

/-- What a loop of the parser holds: the rest of it is read by 'run'. -/
def ModL (md : Int → Md) (w0 : World) (B pb : Nat) (A : Option Addr) (cp : Nat) (l : List Tk) (N : Nat) (r : PR) (i : Value) (w : World) : Prop :=
  ∃ (a : Int) (u : PS) (k : Nat), i = .int .i64 a ∧ k ≤ N ∧ run l k (md a) u = r ∧ Inv u ∧ Pst w B pb A cp l u ∧ Fr B w0 w
theorem tk_out {l : List Tk} {p : Nat} {x : Tk} {k : Int} (hx : tkAt l p = x) (h : x.kind = k) (hk : k ≠ 10) : p < l.length := tk_in (by rw [hx, h]; exact hk)
set_option maxHeartbeats 8000000 in
set_option maxRecDepth 100000 in
theorem or_step {l : List Tk} {n : Nat} (IH : ∀ k, k ≤ n → RunC l k) {s : PS} (hi : Inv s) (hne : run l (n + 1) .or s ≠ .out) : CallM 117 l s (run l (n + 1) .or s) := by
  intro w B pb A cp hP
  obtain ⟨r, hr⟩ : ∃ r, run l (n + 1) .or s = r := ⟨_, rfl⟩
  rw [hr] at hne ⊢
  obtain ⟨r1, h1⟩ : ∃ r1, run l n .row s = r1 := ⟨_, rfl⟩
  have hu : r1.bind (fun a s => run l n (.orL a) s) = r := by rw [← h1, ← hr]; rfl
  have h1o : r1 ≠ .out := fun e => hne (by rw [← hu, e]; rfl)
  have HC0 := IH n (Nat.le_refl _) .row _ s rfl hi (by rw [h1]; exact h1o) w B pb A cp hP
  rw [h1] at HC0
  have HC := Lib.hid HC0
  have HI := Lib.hid IH
  have HN := Lib.hid hne
  have HQ : Hid (∀ a u, r1 = .ok a u → Inv u ∧ run l n (.orL a) u = r) := fun a u e => by
    rw [e] at h1 hu
    exact ⟨⟨by have := (run_inv h1 hi).1; simp only [moreM, lessM] at this; omega, (run_inv h1 hi).2⟩, hu⟩
  have HQB : Hid (∀ e p, r1 = .bad e p → r = .bad e p) := fun e p h => by rw [h] at hu; exact hu.symm
  have hbs := hP.heap
  have hlong := hP.long
  clear HC0 IH hne hu h1o h1 hr hP hi
  go_enter Tryz.func117, Tryz.ntmps117
  go_wp2_with fail
  refine HC.out.mono ?_; intro e1 w1 hq
  cases r1 with
  | out => exact absurd hq id
  | bad e p =>
    obtain ⟨rfl, hb1⟩ := hq
    have hrr := HQB.out e p rfl
    have HB1 := Lib.hid hb1
    clear HC HQ HI HN hb1 HQB
    subst hrr
    go_wp2
    exact ⟨rfl, (by assumption : ftE e p = _).symm, HB1.out⟩
  | ok a u =>
    obtain ⟨rfl, hP1, hb1⟩ := hq
    obtain ⟨hiu, hru⟩ := HQ.out a u rfl
    have HL : Hid (ModL .orL w B pb A cp l n r (.int .i64 a) w1) := ⟨a, u, n, rfl, Nat.le_refl _, hru, hiu, hP1, hb1⟩
    clear hP1 hb1 hiu hru HC HQ HQB
    go_wp2
    go_loopw [3] (ModL .orL w B pb A cp l n r) (fun _ wr => l.length + 1 - rdOf wr pb)
    case atStart => exact HL.out
    case round =>
      obtain ⟨a', u', k, rfl, hk, hrun, hiu, hPu, hbu⟩ := hrel
      have hlong2 := hlong
      cases k with
      | zero => exact absurd (show r = .out from hrun.symm) HN.out
      | succ k =>
        have HT := Lib.hid hPu.token
        obtain ⟨x, hx⟩ : ∃ x, tkAt l u'.read = x := ⟨_, rfl⟩
        rw [hx] at HT
        by_cases h5 : x.kind = 5
        · have e5 : (x.kind == 5) = true := by rw [h5]; rfl
          have hr2 : (run l k .row u'.next).bind (fun b s => run l k (.orL (s.count : Int)) (s.lay { kind := 5, a := a', b := b } (-1))) = r := by rw [← hrun]; simp only [run]; rw [hx, if_pos h5]
          obtain ⟨r2, h2⟩ : ∃ r2, run l k .row u'.next = r2 := ⟨_, rfl⟩
          rw [h2] at hr2
          have h2o : r2 ≠ .out := fun e => HN.out (by rw [← hr2, e]; rfl)
          have hin := tk_out hx h5 (by decide)
          have hread : u'.read < 16777216 := by omega
          have HC2 : Hid (∀ w, Pst w B pb A cp l u'.next → Calls Tryz.prog 138 #[.pointer (some ⟨pb, 0, none⟩)] w (RunPost B pb A cp l w r2)) := fun w h => by
            have q := HI.out k (by omega) .row _ u'.next rfl hiu.next (by rw [h2]; exact h2o) w B pb A cp h
            rw [h2] at q; exact q
          have H2 : Hid (∀ b v, r2 = .ok b v → u'.read < v.read ∧ v.count + 1 ≤ 2 * v.read ∧ KeptO v ∧ run l k (.orL (v.count : Int)) (v.lay { kind := 5, a := a', b := b } (-1)) = r) := fun b v e => by
            rw [e] at h2 hr2
            have q1 := run_inv h2 hiu.next
            have q2 := (run_read _ _ _ _ _ h2).1
            simp only [moreM, lessM, eats, PS.next] at q1 q2
            exact ⟨by omega, by omega, q1.2, hr2⟩
          have H2B : Hid (∀ e p, r2 = .bad e p → r = .bad e p) := fun e p h => by rw [h] at hr2; exact hr2.symm
          have HPu := Lib.hid hPu
          have HBu := Lib.hid hbu
          clear hr2 h2o h2 hrun hPu hbu hx hiu h5 HL
          unfold tkC at HT
          go_wp2_with fail
          refine HT.out.mono ?_; rintro e2 w2 ⟨rfl, hb2⟩
          have hf0 := field_tok0 x.kind x.at_ x.lo x.hi (wd x.cls 0) (wd x.cls 1) (wd x.cls 2) (wd x.cls 3) (bs x.text) w2
          have HP2 := Lib.hid (HPu.out.later hb2)
          have HB2 := Lib.hid (HBu.out.trans (Fr.of hb2 HPu.out.heap))
          have c1 := HP2.out.cell1
          have fz := HP2.out.frozen 1
          have hw := wrap_of (by omega : (u'.read : Int) + 1 ≤ 1073741824) (by omega : (0 : Int) ≤ (u'.read : Int) + 1)
          have HP3 := Lib.hid (HP2.out.next hread)
          have HB3 := Lib.hid (HB2.out.setP HP2.out 1 (.int .i64 ((u'.read : Int) + 1)))
          have hrd := HPu.out.rdOf
          clear hb2 HT HPu HBu HP2 HB2
          go_upto_region 4 with (fail)
          generalize w2.setCell ⟨pb, 1, none⟩ (.int .i64 ((u'.read : Int) + 1)) = w3 at *
          clear c1 fz hw e5
          go_wp2_with fail
          refine (HC2.out w3 HP3.out).mono ?_; intro e3 w4 hq
          cases r2 with
          | out => exact absurd hq id
          | bad e p =>
            obtain ⟨rfl, hb4⟩ := hq
            have hrr := H2B.out e p rfl
            have HB4 := Lib.hid (HB3.out.trans hb4)
            clear HC2 H2 H2B HI HN hb4 HB3 HP3
            subst hrr
            go_wp2
            exact ⟨rfl, (by assumption : ftE e p = _).symm, HB4.out⟩
          | ok b v =>
            obtain ⟨rfl, hP4, hb4⟩ := hq
            obtain ⟨hv1, hv2, hv3, hv4⟩ := H2.out b v rfl
            have HB4 := Lib.hid (HB3.out.trans hb4)
            have HY := Lib.hid (hP4.lay (by omega) hv3 { kind := 5, a := a', b := b } (-1))
            rw [ndC_zero] at HY
            have HV4 := Lib.hid hv4
            have HIV := Lib.hid (Inv.lay1 hv2 hv3 { kind := 5, a := a', b := b } (-1))
            have HVR : Hid (v.read = (v.lay { kind := 5, a := a', b := b } (-1)).read) := (lay_read _ _ _).1.symm
            clear HC2 H2 H2B HB3 HP3 hP4 hb4 hv4
            go_wp2_with fail
            refine HY.out.mono ?_; intro e5 w5 hq
            obtain ⟨rfl, hP5, hb5⟩ := hq
            have HP5 := Lib.hid hP5
            have HB5 := Lib.hid (HB4.out.trans hb5)
            clear hP5 hb5 HY HB4
            go_wp2
            go_roundw
            case rel => exact ⟨_, _, k, rfl, by omega, HV4.out, HIV.out, HP5.out, HB5.out⟩
            case measure =>
              rw [HP5.out.rdOf, hrd, ← HVR.out]
              omega
        · have e5 : (x.kind == 5) = false := beq_false_of_ne h5
          have hr2 : r = .ok a' u' := by rw [← hrun]; simp only [run]; rw [hx, if_neg h5]
          subst hr2
          have HPu := Lib.hid hPu
          have HBu := Lib.hid hbu
          clear hrun hPu hbu hx hiu h5 HL
          unfold tkC at HT
          go_wp2_with fail
          refine HT.out.mono ?_; rintro e2 w2 ⟨rfl, hb2⟩
          have hf0 := field_tok0 x.kind x.at_ x.lo x.hi (wd x.cls 0) (wd x.cls 1) (wd x.cls 2) (wd x.cls 3) (bs x.text) w2
          have HP2 := Lib.hid (HPu.out.later hb2)
          have HB2 := Lib.hid (HBu.out.trans (Fr.of hb2 HPu.out.heap))
          clear hb2 HT HPu HBu
          go_wp2
          exact bodyPost_ret (v := .int .i64 a') (by simp [results, Tryz.results117, go_sem]) rfl ⟨rfl, HP2.out, HB2.out⟩
end Go.Proofs.YtcgjmnhmhiddkaaGreatDoor
/- The parser's row: walked. -/
namespace Go.Proofs.YtcgjmnhmhiddkaaGreatDoor
open Go Go.RowKit
set_option linter.unusedVariables false
set_option linter.unusedSimpArgs false

set_option maxHeartbeats 8000000 in
set_option maxRecDepth 100000 in
theorem row_step {l : List Tk} {n : Nat} (IH : ∀ k, k ≤ n → RunC l k) {s : PS} (hi : Inv s) (hne : run l (n + 1) .row s ≠ .out) : CallM 138 l s (run l (n + 1) .row s) := by
  intro w B pb A cp hP
  obtain ⟨r, hr⟩ : ∃ r, run l (n + 1) .row s = r := ⟨_, rfl⟩
  rw [hr] at hne ⊢
  obtain ⟨r1, h1⟩ : ∃ r1, run l n .post s = r1 := ⟨_, rfl⟩
  have hu : r1.bind (fun a s => run l n (.rowL a) s) = r := by rw [← h1, ← hr]; rfl
  have h1o : r1 ≠ .out := fun e => hne (by rw [← hu, e]; rfl)
  have HC0 := IH n (Nat.le_refl _) .post _ s rfl hi (by rw [h1]; exact h1o) w B pb A cp hP
  rw [h1] at HC0
  have HC := Lib.hid HC0
  have HI := Lib.hid IH
  have HN := Lib.hid hne
  have HQ : Hid (∀ a u, r1 = .ok a u → Inv u ∧ run l n (.rowL a) u = r) := fun a u e => by
    rw [e] at h1 hu
    exact ⟨⟨by have := (run_inv h1 hi).1; simp only [moreM, lessM] at this; omega, (run_inv h1 hi).2⟩, hu⟩
  have HQB : Hid (∀ e p, r1 = .bad e p → r = .bad e p) := fun e p h => by rw [h] at hu; exact hu.symm
  have hbs := hP.heap
  have hlong := hP.long
  clear HC0 IH hne hu h1o h1 hr hP hi
  go_enter Tryz.func138, Tryz.ntmps138
  go_wp2_with fail
  refine HC.out.mono ?_; intro e1 w1 hq
  cases r1 with
  | out => exact absurd hq id
  | bad e p =>
    obtain ⟨rfl, hb1⟩ := hq
    have hrr := HQB.out e p rfl
    have HB1 := Lib.hid hb1
    clear HC HQ HI HN hb1 HQB
    subst hrr
    go_wp2
    exact ⟨rfl, (by assumption : ftE e p = _).symm, HB1.out⟩
  | ok a u =>
    obtain ⟨rfl, hP1, hb1⟩ := hq
    obtain ⟨hiu, hru⟩ := HQ.out a u rfl
    have HL : Hid (ModL .rowL w B pb A cp l n r (.int .i64 a) w1) := ⟨a, u, n, rfl, Nat.le_refl _, hru, hiu, hP1, hb1⟩
    clear hP1 hb1 hiu hru HC HQ HQB
    go_wp2
    go_loopw [3] (ModL .rowL w B pb A cp l n r) (fun _ wr => l.length + 1 - rdOf wr pb)
    case atStart => exact HL.out
    case round =>
      obtain ⟨a', u', k, rfl, hk, hrun, hiu, hPu, hbu⟩ := hrel
      have hlong2 := hlong
      cases k with
      | zero => exact absurd (show r = .out from hrun.symm) HN.out
      | succ k =>
        have HT := Lib.hid hPu.token
        obtain ⟨x, hx⟩ : ∃ x, tkAt l u'.read = x := ⟨_, rfl⟩
        rw [hx] at HT
        have hbg0 := begins_any x
        by_cases h5 : begK x.kind = true
        · rw [h5] at hbg0
          unfold tkC at hbg0
          have HBG := Lib.hid hbg0
          clear hbg0
          have hr2 : (run l k .post u').bind (fun b s => run l k (.rowL (s.count : Int)) (s.lay { kind := 4, a := a', b := b } (-1))) = r := by rw [← hrun]; simp only [run]; rw [hx, if_pos h5]
          obtain ⟨r2, h2⟩ : ∃ r2, run l k .post u' = r2 := ⟨_, rfl⟩
          rw [h2] at hr2
          have h2o : r2 ≠ .out := fun e => HN.out (by rw [← hr2, e]; rfl)
          have hin := (tk_in (by rw [hx]; intro e; rw [e] at h5; revert h5; decide) : u'.read < l.length)
          have hread : u'.read < 16777216 := by omega
          have HC2 : Hid (∀ w, Pst w B pb A cp l u' → Calls Tryz.prog 154 #[.pointer (some ⟨pb, 0, none⟩)] w (RunPost B pb A cp l w r2)) := fun w h => by
            have q := HI.out k (by omega) .post _ u' rfl hiu (by rw [h2]; exact h2o) w B pb A cp h
            rw [h2] at q; exact q
          have H2 : Hid (∀ b v, r2 = .ok b v → u'.read < v.read ∧ v.count + 1 ≤ 2 * v.read ∧ KeptO v ∧ run l k (.rowL (v.count : Int)) (v.lay { kind := 4, a := a', b := b } (-1)) = r) := fun b v e => by
            rw [e] at h2 hr2
            have q1 := run_inv h2 hiu
            have q2 := (run_read _ _ _ _ _ h2).1
            simp only [moreM, lessM, eats] at q1 q2
            exact ⟨by omega, by omega, q1.2, hr2⟩
          have H2B : Hid (∀ e p, r2 = .bad e p → r = .bad e p) := fun e p h => by rw [h] at hr2; exact hr2.symm
          have HPu := Lib.hid hPu
          have HBu := Lib.hid hbu
          clear hr2 h2o h2 hrun hPu hbu hx hiu h5 HL
          unfold tkC at HT
          go_wp2_with fail
          refine HT.out.mono ?_; rintro e2 w2 ⟨rfl, hb2⟩
          have hf0 := field_tok0 x.kind x.at_ x.lo x.hi (wd x.cls 0) (wd x.cls 1) (wd x.cls 2) (wd x.cls 3) (bs x.text) w2
          have HP2 := Lib.hid (HPu.out.later hb2)
          have HB2 := Lib.hid (HBu.out.trans (Fr.of hb2 HPu.out.heap))
          have hrd := HPu.out.rdOf
          clear hb2 HT HPu HBu
          go_wp2_with fail
          refine (HBG.out w2).mono ?_; rintro e9 w3 ⟨rfl, hb3⟩
          have HP3 := Lib.hid (HP2.out.later hb3)
          have HB3 := Lib.hid (HB2.out.trans (Fr.of hb3 HP2.out.heap))
          clear hb3 HP2 HB2 HBG hf0
          go_wp2_with fail
          refine (HC2.out w3 HP3.out).mono ?_; intro e3 w4 hq
          cases r2 with
          | out => exact absurd hq id
          | bad e p =>
            obtain ⟨rfl, hb4⟩ := hq
            have hrr := H2B.out e p rfl
            have HB4 := Lib.hid (HB3.out.trans hb4)
            clear HC2 H2 H2B HI HN hb4 HB3 HP3
            subst hrr
            go_wp2
            exact ⟨rfl, (by assumption : ftE e p = _).symm, HB4.out⟩
          | ok b v =>
            obtain ⟨rfl, hP4, hb4⟩ := hq
            obtain ⟨hv1, hv2, hv3, hv4⟩ := H2.out b v rfl
            have HB4 := Lib.hid (HB3.out.trans hb4)
            have HY := Lib.hid (hP4.lay (by omega) hv3 { kind := 4, a := a', b := b } (-1))
            rw [ndC_zero] at HY
            have HV4 := Lib.hid hv4
            have HIV := Lib.hid (Inv.lay1 hv2 hv3 { kind := 4, a := a', b := b } (-1))
            have HVR : Hid (v.read = (v.lay { kind := 4, a := a', b := b } (-1)).read) := (lay_read _ _ _).1.symm
            clear HC2 H2 H2B HB3 HP3 hP4 hb4 hv4
            go_wp2_with fail
            refine HY.out.mono ?_; intro e5 w5 hq
            obtain ⟨rfl, hP5, hb5⟩ := hq
            have HP5 := Lib.hid hP5
            have HB5 := Lib.hid (HB4.out.trans hb5)
            clear hP5 hb5 HY HB4
            go_wp2
            go_roundw
            case rel => exact ⟨_, _, k, rfl, by omega, HV4.out, HIV.out, HP5.out, HB5.out⟩
            case measure =>
              rw [HP5.out.rdOf, hrd, ← HVR.out]
              omega
        · have hbf : begK x.kind = false := by simpa using h5
          rw [hbf] at hbg0
          unfold tkC at hbg0
          have HBG := Lib.hid hbg0
          clear hbg0 hbf
          have hr2 : r = .ok a' u' := by rw [← hrun]; simp only [run]; rw [hx, if_neg h5]
          subst hr2
          have HPu := Lib.hid hPu
          have HBu := Lib.hid hbu
          clear hrun hPu hbu hx hiu h5 HL
          unfold tkC at HT
          go_wp2_with fail
          refine HT.out.mono ?_; rintro e2 w2 ⟨rfl, hb2⟩
          have hf0 := field_tok0 x.kind x.at_ x.lo x.hi (wd x.cls 0) (wd x.cls 1) (wd x.cls 2) (wd x.cls 3) (bs x.text) w2
          have HP2 := Lib.hid (HPu.out.later hb2)
          have HB2 := Lib.hid (HBu.out.trans (Fr.of hb2 HPu.out.heap))
          clear hb2 HT HPu HBu hf0
          go_wp2_with fail
          refine (HBG.out w2).mono ?_; rintro e9 w3 ⟨rfl, hb3⟩
          have HP3 := Lib.hid (HP2.out.later hb3)
          have HB3 := Lib.hid (HB2.out.trans (Fr.of hb3 HP2.out.heap))
          clear hb3 HP2 HB2 HBG
          go_wp2
          exact bodyPost_ret (v := .int .i64 a') (by simp [results, Tryz.results138, go_sem]) rfl ⟨rfl, HP3.out, HB3.out⟩
end Go.Proofs.YtcgjmnhmhiddkaaGreatDoor
