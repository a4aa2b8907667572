/- How deep a description's text is, counted in it: plain mathematics. -/
import Derived.Test.YtpbadglfegcdjaaGreatDoorM23
import Derived.Test.YtpbadglfegcdjaaGreatDoorM08
import Derived.Test.YtpbadglfegcdjaaGreatDoorM22
namespace Go.Proofs.YtpbadglfegcdjaaGreatDoor
open Go
set_option linter.unusedVariables false
set_option linter.unusedSimpArgs false

theorem clsT_no (c : BitVec 256) : NoBr (clsT c) := by
  unfold clsT NoBr
  split
  · exact ⟨by decide, by decide⟩
  · exact ⟨by simp, by simp⟩
theorem bndT_no (a b : Int) : NoBr (bndT a b) := by
  unfold bndT repT NoBr
  exact ⟨by simp, by simp⟩
/-- Counted over the pieces. -/
theorem deep_pieces (l : List Nd) : (sgsF clsT bndT l l.length ((l.length : Int) - 1) 0).foldl dstep (0, 0) = (0, (deepN l : Int)) := by
  rw [deep_told clsT_no bndT_no l l.length _ 0 0 0 (by omega)]
  unfold deepN
  congr 1; omega
theorem pieces_all (l : List Nd) (hok : ∀ j, j < l.length → okN l j (atN l j)) : ∀ (i : Nat), i < l.length → ∀ f : Nat, i < f → ∀ lev, ∀ s ∈ sgsF clsT bndT l f (i : Int) lev, PieceS s := by
  intro i
  induction i using Nat.strongRecOn with
  | ind i ih =>
    intro hi f hf lev
    obtain ⟨f, rfl⟩ : ∃ f', f = f' + 1 := ⟨f - 1, by omega⟩
    rw [sgsF_succ, Int.toNat_natCast]
    have key : ∀ (j lv : Int), 0 ≤ j → j < (i : Int) → ∀ s ∈ sgsF clsT bndT l f j lv, PieceS s := fun j lv h0 h1 => by
      obtain ⟨q, rfl⟩ := Int.eq_ofNat_of_zero_le h0
      exact ih q (by omega) (by omega) f (by omega) lv
    have hn := (hok i hi).2
    have plain1 : ∀ c : UInt8, c ≠ 34 ∧ c ≠ 40 ∧ c ≠ 41 → PieceS [c] := fun c h => .inr (.inr (.inl (fun d hd => by simp at hd; subst hd; exact h)))
    have app : ∀ (a b : List (List UInt8)), (∀ s ∈ a, PieceS s) → (∀ s ∈ b, PieceS s) → ∀ s ∈ a ++ b, PieceS s := fun a b ha hb s hs => by
      rcases List.mem_append.mp hs with h | h
      · exact ha s h
      · exact hb s h
    have con : ∀ (x : List UInt8) (b : List (List UInt8)), PieceS x → (∀ s ∈ b, PieceS s) → ∀ s ∈ x :: b, PieceS s := fun x b hx hb s hs => by
      rcases List.mem_cons.mp hs with h | h
      · rw [h]; exact hx
      · exact hb s h
    have none0 : ∀ s ∈ ([] : List (List UInt8)), PieceS s := fun s hs => by cases hs
    have brks : ∀ a : List (List UInt8), (∀ s ∈ a, PieceS s) → ∀ s ∈ [40] :: (a ++ [[41]]), PieceS s := fun a ha => con _ _ (.inl rfl) (app _ _ ha (con _ _ (.inr (.inl rfl)) none0))
    have hp : ∀ s ∈ outP (sgsF clsT bndT l f) (pcsN clsT bndT (atN l i)), PieceS s := by
      generalize atN l i = n at hn ⊢
      unfold pcsN
      rcases hn with h | h | h | h | h | h
      · simp only [h]
        exact brks [] none0
      · simp only [h]
        exact con _ _ (.inr (.inr (.inl (clsT_piece _)))) none0
      · have ht := textOk_parts h.2
        simp only [h.1]
        exact con _ _ (.inr (.inr (.inr ⟨n.text, rfl, fun c hc e => ht.2.2 (e ▸ hc)⟩))) none0
      · obtain ⟨hk, h0, h1⟩ := h
        have K := fun lv => key n.a lv h0 (by omega)
        rcases hk with hk | hk | hk
        · simp only [hk]
          exact app _ _ (K 2) (con _ _ (plain1 42 (by decide)) none0)
        · simp only [hk]
          show ∀ s ∈ [98] :: outP _ (Go.Proofs.YtpbadglfegcdjaaGreatDoor.brk [.nd n.a 0]), PieceS s
          rw [outP_brk]
          exact con _ _ (plain1 98 (by decide)) (brks _ (app _ _ (K 0) none0))
        · simp only [hk]
          show ∀ s ∈ [119] :: outP _ (Go.Proofs.YtpbadglfegcdjaaGreatDoor.brk [.nd n.a 0]), PieceS s
          rw [outP_brk]
          exact con _ _ (plain1 119 (by decide)) (brks _ (app _ _ (K 0) none0))
      · obtain ⟨hk, ⟨h0, h1⟩, hl0, hlh, hh⟩ := h
        have K := fun lv => key n.a lv h0 (by omega)
        simp only [hk]
        exact app _ _ (K 2) (con _ _ (.inr (.inr (.inl (repT_plain _ _ (by omega) (by omega))))) none0)
      · obtain ⟨hk, ⟨h0, h1⟩, h2, h3⟩ := h
        have hle := firstP_le l n.b.toNat
        have KA := fun lv => key n.a lv h2 (by omega)
        have KB := fun lv => key n.b lv h0 (by omega)
        rcases hk with hk | hk
        · simp only [hk]
          exact app _ _ (KA 1) (app _ _ (KB 2) none0)
        · simp only [hk]
          show ∀ s ∈ sgsF clsT bndT l f n.a 0 ++ ([124] :: (sgsF clsT bndT l f n.b 1 ++ [])), PieceS s
          exact app _ _ (KA 0) (con _ _ (plain1 124 (by decide)) (app _ _ (KB 1) none0))
    unfold fullN
    split
    · rw [outP_brk]; exact brks _ hp
    · exact hp
/-- Counted over the bytes outside quotes. -/
theorem deep_bytes {l : List Nd} (hf : Form l) : (textN l).foldl bstep (0, 0, false) = (0, (deepN l : Int), false) := by
  obtain ⟨hpos, hok, _⟩ := hf
  obtain ⟨i, hi⟩ : ∃ i, l.length = i + 1 := ⟨l.length - 1, by omega⟩
  have e : (l.length : Int) - 1 = (i : Int) := by omega
  have k := pieces_all l hok i (by omega) l.length (by omega) 0
  rw [← e] at k
  unfold textN
  rw [bfold_pieces _ 0 0 k, deep_pieces]
/-- The program's machine tells the text. -/
theorem told_text {l : List Nd} (hf : Form l) : ∃ k t, ∀ n r, eachR clsT bndT l (n + k) (fun _ => false) (.nd ((l.length : Int) - 1) 0 :: r) = (eachR clsT bndT l n t r).map (sgsF clsT bndT l l.length ((l.length : Int) - 1) 0 ++ ·) := by
  obtain ⟨hpos, hok, _⟩ := hf
  obtain ⟨i, hi⟩ : ∃ i, l.length = i + 1 := ⟨l.length - 1, by omega⟩
  have e : (l.length : Int) - 1 = (i : Int) := by omega
  rw [e, hi]
  obtain ⟨k, hk⟩ := told_at (cT := clsT) (bT := bndT) l hok i (by omega) (fun _ => false) (fun _ _ _ => rfl) 0
  exact ⟨k, _, hk⟩
end Go.Proofs.YtpbadglfegcdjaaGreatDoor
/- A class' text: read as one token, and how long it is: plain mathematics. -/
namespace Go.Proofs.YtpbadglfegcdjaaGreatDoor
open Go
set_option linter.unusedVariables false
set_option linter.unusedSimpArgs false

theorem clsT_read (c : BitVec 256) : readL (clsT c) 0 0 = .ok [{ kind := 1, at_ := 0, cls := c }, { kind := 10, at_ := (clsT c).length }] := by
  have h := (reads_cls c).read [] 0
  rw [List.append_nil, readL_nil] at h
  rw [h, Nat.zero_add]; rfl
theorem clsT_dot (c : BitVec 256) : clsT c = [46] ↔ c = rowB 0 255 := by
  unfold clsT
  constructor
  · intro h
    split at h
    · assumption
    · injection h with h1 h2; exact absurd h1 (by decide)
  · intro h; rw [if_pos h]
/-- How many bytes below one a class has. -/
def cntU (c : BitVec 256) : Nat → Nat
  | 0 => 0
  | p + 1 => cntU c p + (if c.getLsbD p = true then 1 else 0)
theorem cntU_row (c : BitVec 256) (p : Nat) : ∀ k : Nat, (∀ j, p ≤ j → j < p + k → c.getLsbD j = true) → cntU c (p + k) = cntU c p + k
  | 0, _ => rfl
  | k + 1, h => by
    show cntU c (p + k) + (if c.getLsbD (p + k) = true then 1 else 0) = _
    rw [cntU_row c p k (fun j h1 h2 => h j h1 (by omega)), if_pos (h (p + k) (by omega) (by omega))]; omega
theorem rowT_len (a b : Nat) : (rowT a b).length = if a = b then 2 else 5 := by
  unfold rowT hexT; split <;> simp
def sumL : List (List UInt8) → Nat
  | [] => 0
  | x :: l => (x.length + 1) + sumL l
theorem joinC_len : ∀ (l : List (List UInt8)), l ≠ [] → (joinC l).length + 1 = sumL l
  | [], h => absurd rfl h
  | [x], _ => by simp [joinC, sumL]
  | x :: y :: l, _ => by
    have k := joinC_len (y :: l) (by simp)
    show (x ++ 44 :: joinC (y :: l)).length + 1 = (x.length + 1) + sumL (y :: l)
    rw [← k]; simp; omega
theorem sum_rows (c : BitVec 256) : ∀ (f p : Nat), p ≤ 256 → 256 ≤ p + f → sumL ((rowsF c f p).map fun r => rowT r.1 r.2) + 3 * cntU c p ≤ 3 * cntU c 256
  | 0, p, hp, hf => by
    have e : p = 256 := by omega
    subst e; show 0 + _ ≤ _; omega
  | f + 1, p, hp, hf => by
    unfold rowsF
    split
    · have e : p = 256 := by omega
      subst e; show 0 + _ ≤ _; omega
    split
    · rename_i h1 h2
      have k := sum_rows c f (p + 1) (by omega) (by omega)
      have e : cntU c (p + 1) = cntU c p := by
        show cntU c p + (if c.getLsbD p = true then 1 else 0) = _
        rw [h2]; simp
      rw [e] at k; exact k
    · rename_i h1 h2
      have k := lastF_ok c 256 p (by omega) (by omega) (by simpa using h2)
      generalize lastF c 256 p = q at k
      have r := sum_rows c f (q + 1) (by omega) (by omega)
      have e : cntU c (q + 1) = cntU c p + (q + 1 - p) := by
        have := cntU_row c p (q + 1 - p) (fun j h1 h2 => k.2.2.1 j h1 (by omega))
        rwa [show p + (q + 1 - p) = q + 1 by omega] at this
      rw [e] at r
      show ((rowT p q).length + 1) + sumL ((rowsF c f (q + 1)).map fun r => rowT r.1 r.2) + _ ≤ _
      have hl := rowT_len p q
      by_cases hpq : p = q
      · rw [if_pos hpq] at hl; omega
      · rw [if_neg hpq] at hl; omega
/-- It isn't longer than the text byte by byte. -/
theorem clsT_len (c : BitVec 256) : (clsT c).length ≤ max (1 + 3 * cntU c 256) 2 := by
  have s := sum_rows c 256 0 (by omega) (by omega)
  have hz : cntU c 0 = 0 := rfl
  rw [hz] at s
  generalize cntU c 256 = m at s
  unfold clsT
  split
  · show 1 ≤ _; omega
  · have hs : sumL (rowsT c) ≤ 3 * m := by unfold rowsT; omega
    by_cases h : rowsT c = []
    · rw [h]; show 2 ≤ _; omega
    · have := joinC_len _ h
      simp only [List.length_cons, List.length_append, List.length_nil]
      omega
end Go.Proofs.YtpbadglfegcdjaaGreatDoor
/- How long a description's text may be: plain mathematics. -/
namespace Go.Proofs.YtpbadglfegcdjaaGreatDoor
open Go
set_option linter.unusedVariables false
set_option linter.unusedSimpArgs false

theorem cntU_le (c : BitVec 256) : ∀ p, cntU c p ≤ p
  | 0 => Nat.le_refl _
  | p + 1 => by
    have := cntU_le c p
    show cntU c p + _ ≤ _
    split <;> omega
theorem clsT_bound (c : BitVec 256) : (clsT c).length ≤ 769 := by
  have := clsT_len c
  have := cntU_le c 256
  omega
theorem decT_bound (n : Nat) : (decT n).length ≤ 3 := by
  unfold decT
  (repeat' split) <;> simp
theorem bndT_bound (lo hi : Int) : (bndT lo hi).length ≤ 9 := by
  unfold bndT repT
  have h1 := decT_bound lo.toNat
  have h2 := decT_bound hi.toNat
  simp; omega
def lenO (o : List (List UInt8)) : Nat := o.flatten.length
theorem lenO_cons (s : List UInt8) (o : List (List UInt8)) : lenO (s :: o) = s.length + lenO o := by unfold lenO; simp
theorem lenO_append (a b : List (List UInt8)) : lenO (a ++ b) = lenO a + lenO b := by unfold lenO; simp
theorem lenO_nil : lenO [] = 0 := rfl
theorem outP_nil (f : Int → Int → List (List UInt8)) : outP f [] = [] := rfl
theorem outP_sg (f : Int → Int → List (List UInt8)) (s : List UInt8) (r : List Pc) : outP f (.sg s :: r) = s :: outP f r := by unfold outP; simp
theorem outP_nd (f : Int → Int → List (List UInt8)) (i lev : Int) (r : List Pc) : outP f (.nd i lev :: r) = f i lev ++ outP f r := by unfold outP; simp
theorem sgs_len (l : List Nd) (hok : ∀ j, j < l.length → okN l j (atN l j)) (ht : ∀ n ∈ l, n.text.length ≤ 2000) : ∀ (i : Nat), i < l.length → ∀ f : Nat, i < f → ∀ lev, lenO (sgsF clsT bndT l f (i : Int) lev) ≤ (i + 1 - firstP l i) * 3000 := by
  intro i
  induction i using Nat.strongRecOn with
  | ind i ih =>
    intro hi f hf lev
    obtain ⟨f, rfl⟩ : ∃ f', f = f' + 1 := ⟨f - 1, by omega⟩
    rw [sgsF_succ, Int.toNat_natCast]
    have hle := firstP_le l i
    have hcs := (hok i hi).cs rfl
    have htx : (atN l i).text.length ≤ 2000 := by
      unfold atN; rw [List.getD_eq_getElem?_getD, List.getElem?_eq_getElem hi]; exact ht _ (List.getElem_mem _)
    have key : ∀ (q : Nat) (lv : Int), q < i → lenO (sgsF clsT bndT l f (q : Int) lv) ≤ (q + 1 - firstP l q) * 3000 := fun q lv h1 => ih q h1 (by omega) f (by omega) lv
    have hp : lenO (outP (sgsF clsT bndT l f) (pcsN clsT bndT (atN l i))) + 2 ≤ (i + 1 - firstP l i) * 3000 := by
      generalize atN l i = n at hcs htx ⊢
      cases hcs with
      | leaf hk hfi =>
        unfold leafK at hk
        rw [hfi]
        have c1 := clsT_bound n.cls
        rcases hk with h | h | h <;> simp only [pcsN, h, Go.Proofs.YtpbadglfegcdjaaGreatDoor.brk] <;> simp [outP_sg, outP_nil, lenO_cons, lenO_nil] <;> omega
      | one hk h0 ha hb h7 hr hc hfi =>
        have hq := firstP_le l (i - 1)
        have K := fun lv => key (i - 1) lv (by omega)
        have e : n.a = ((i - 1 : Nat) : Int) := by omega
        have b1 := bndT_bound n.lo n.hi
        rw [hfi]
        have hkk : n.kind = 6 ∨ n.kind = 7 ∨ n.kind = 8 ∨ n.kind = 9 := by omega
        have K0 := K 0
        have K2 := K 2
        rcases hkk with h | h | h | h <;> simp only [pcsN, h, e, Go.Proofs.YtpbadglfegcdjaaGreatDoor.brk] <;> simp [outP_sg, outP_nd, outP_nil, lenO_cons, lenO_append, lenO_nil] <;> omega
      | two hk h0 hb ha hf0 hl hc hfi =>
        have hq := firstP_le l (i - 1)
        have hq2 := firstP_le l (firstP l (i - 1) - 1)
        have e : n.a = ((firstP l (i - 1) - 1 : Nat) : Int) := by omega
        have e2 : n.b = ((i - 1 : Nat) : Int) := by omega
        have KA := fun lv => key (firstP l (i - 1) - 1) lv (by omega)
        have KB := fun lv => key (i - 1) lv (by omega)
        rw [hfi]
        have A0 := KA 0
        have A1 := KA 1
        have B1 := KB 1
        have B2 := KB 2
        rcases hk with h | h <;> simp only [pcsN, h, e, e2] <;> simp [outP_sg, outP_nd, outP_nil, lenO_cons, lenO_append, lenO_nil] <;> omega
    unfold fullN
    split
    · rw [outP_brk, lenO_cons, lenO_append, lenO_cons, lenO_nil]; simp only [List.length_cons, List.length_nil]; omega
    · omega
theorem textN_len {l : List Nd} (hf : Form l) (ht : ∀ n ∈ l, n.text.length ≤ 2000) : (textN l).length ≤ l.length * 3000 := by
  have hpos := hf.1
  have := sgs_len l hf.2.1 ht (l.length - 1) (by omega) l.length (by omega) 0
  rw [show ((l.length - 1 : Nat) : Int) = (l.length : Int) - 1 by omega, show l.length - 1 + 1 = l.length by omega] at this
  unfold textN
  unfold lenO at this
  exact Nat.le_trans this (Nat.mul_le_mul_right _ (Nat.sub_le _ _))
end Go.Proofs.YtpbadglfegcdjaaGreatDoor
/- A class' text: walked. -/
namespace Go.Proofs.YtpbadglfegcdjaaGreatDoor
open Go Go.RowKit
set_option linter.unusedVariables false
set_option linter.unusedSimpArgs false

/-- What Class holds. -/
structure PcS (w0 : World) (a : BitVec 256) (l : List (List UInt8)) (v : Value) (w : World) : Prop where
  bel : Below w0.heap.size w0 w
  box : Blk w w0.heap.size (cells4 a) 40
  own : OwnS w (w0.heap.size + 1) v l
  low : w0.heap.size + 1 ≤ w.heap.size
theorem PcS.later {w0 w w' : World} {a : BitVec 256} {l : List (List UInt8)} {v : Value} (h : PcS w0 a l v w) (hb : Below w.heap.size w w') : PcS w0 a l v w' :=
  ⟨h.bel.trans (hb.mono h.bel.size), h.box.later hb, h.own.later hb, Nat.le_trans h.low hb.size⟩
def txR (l : List (Nat × Nat)) : List (List UInt8) := l.map fun r => rowT r.1 r.2
/-- Its rows so far; those from a byte on are still to be told. -/
def PcL (w0 : World) (a : BitVec 256) (v i : Value) (w : World) : Prop := ∃ (p : Nat) (f : Nat) (l : List (Nat × Nat)), p ≤ 256 ∧ 256 ≤ p + f ∧ l.length ≤ p ∧ l ++ rowsF a f p = rowsF a 256 0 ∧ i = .int .i64 (p : Int) ∧ PcS w0 a (txR l) v w
def PcI (w0 : World) (a : BitVec 256) (l : List (List UInt8)) (v : Value) (q : Nat) (x : Value) (w : World) : Prop := ∃ (p f : Nat), p < 256 ∧ 256 ≤ p + f ∧ lastF a f p = q ∧ x = .int .i64 (p : Int) ∧ PcS w0 a l v w
theorem cntS_all (a : BitVec 256) : cntS a = 256 ↔ a = rowB 0 255 := by
  have h := cntS_eq_iff a (rowB 0 255)
  have e1 : a ||| rowB 0 255 = rowB 0 255 := BitVec.eq_of_getLsbD_eq fun i hi => by
    rw [BitVec.getLsbD_or, rowB_bit _ _ _ hi, decide_eq_true (by omega : 0 ≤ i ∧ i ≤ 255)]; simp
  have e2 : a &&& rowB 0 255 = a := BitVec.eq_of_getLsbD_eq fun i hi => by
    rw [BitVec.getLsbD_and, rowB_bit _ _ _ hi, decide_eq_true (by omega : 0 ≤ i ∧ i ≤ 255)]; simp
  rw [e1, e2, cntS_row 0 255 (by omega) (by omega)] at h
  rw [← h]
  omega
theorem rowsF_end (a : BitVec 256) (f : Nat) : rowsF a f 256 = [] := by
  cases f with
  | zero => rfl
  | succ f => unfold rowsF; rw [if_pos (Nat.le_refl _)]
theorem rowsF_no {a : BitVec 256} {f p : Nat} (hp : p < 256) (h : a.getLsbD p = false) : rowsF a (f + 1) p = rowsF a f (p + 1) := by
  conv => lhs; unfold rowsF
  rw [if_neg (by omega), if_pos h]
theorem rowsF_yes {a : BitVec 256} {f p : Nat} (hp : p < 256) (h : a.getLsbD p = true) : rowsF a (f + 1) p = (p, lastF a 256 p) :: rowsF a f (lastF a 256 p + 1) := by
  conv => lhs; unfold rowsF
  rw [if_neg (by omega), if_neg (by rw [h]; simp)]
theorem four_cells6 {w : World} {b : Nat} {a : BitVec 256} (h : Blk w b (cells4 a) 40) : w.cell? ⟨b, 0, none⟩ = some (.int .u64 (wd a 0)) ∧ w.cell? ⟨b, 1, none⟩ = some (.int .u64 (wd a 1)) ∧ w.cell? ⟨b, 2, none⟩ = some (.int .u64 (wd a 2)) ∧ w.cell? ⟨b, 3, none⟩ = some (.int .u64 (wd a 3)) := by
  have g := h.cell
  exact ⟨(g 0).trans rfl, (g 1).trans rfl, (g 2).trans rfl, (g 3).trans rfl⟩
theorem clsT_some {a : BitVec 256} (h : a ≠ rowB 0 255) : clsT a = 60 :: (joinC (rowsT a) ++ [62]) := by unfold clsT; rw [if_neg h]
theorem OwnS.row2 {w : World} {base : Nat} {v : Value} {l : List (List UInt8)} (h : OwnS w base v l) : ∃ a cap, v = .slice a l.length cap ∧ l.length ≤ cap ∧ SRow w a l := by
  obtain ⟨a, cap, hv, hr⟩ := h.row
  refine ⟨a, cap, hv, ?_, hr⟩
  rcases h.2 with ⟨hv2, hn⟩ | ⟨g, cap2, cur, hv2, hb, hg, hc, hm, hs, ht⟩
  · omega
  · rw [hv] at hv2; cases hv2; exact hc
set_option maxHeartbeats 16000000 in
set_option maxRecDepth 100000 in
theorem class_any6 (a : BitVec 256) (w : World) : Calls Tryz.prog 17 #[cls a] w (Ans w (.string (bs (clsT a)))) := by
  have HS0 : Hid (PcS w a [] (.slice none 0 0) (w.alloc (.cells (cells4 a) 40))) :=
    ⟨(Below.refl _ _).alloc (Nat.le_refl _) _, Blk.new _ _ _, OwnS.nil _ _, by simp⟩
  have HC := Lib.hid (fun w' => count_any a w')
  obtain ⟨v, hv⟩ : ∃ v, clsT a = v := ⟨_, rfl⟩
  rw [hv]
  have HV := Lib.hid hv
  clear hv
  unfold cls at HC ⊢
  unfold cells4 at HS0
  go_enter Tryz.func17, Tryz.ntmps17
  go_upto_region 1 with (fail)
  generalize w.alloc (.cells #[.int .u64 (wd a 0), .int .u64 (wd a 1), .int .u64 (wd a 2), .int .u64 (wd a 3)] 40) = w1 at *
  have HH : Hid (∀ (p : Nat), p < 256 → ∀ w', Calls Tryz.prog 30 #[.agg #[.int .u64 (wd a 0), .int .u64 (wd a 1), .int .u64 (wd a 2), .int .u64 (wd a 3)], .int .u8 (p : Int)] w' (Ans w' (.bool (a.getLsbD p)))) := fun p hp w' => has_any a p hp w'
  obtain ⟨c0, c1, c2, c3⟩ := four_cells6 HS0.out.box
  have hca := cntS_all a
  generalize cntS a = n at *
  go_wp2_with fail
  refine (HC.out _).mono ?_; rintro e w2 ⟨rfl, hb⟩
  have HS2 := Lib.hid (HS0.out.later hb)
  clear hb c0 c1 c2 c3 HC HS0
  by_cases hall : a = rowB 0 255
  · have hn : n = 256 := hca.2 hall
    have hz : ((n : Int) == 256) = true := by rw [beq_iff_eq]; omega
    have HR : Hid (v = [46]) := by unfold Hid; rw [← HV.out]; unfold clsT; rw [if_pos hall]
    clear hca hn hall
    go_wp2
    go_ret
    exact ⟨by rw [HR.out]; rfl, HS2.out.bel⟩
  · have hz : ((n : Int) == 256) = false := by rw [beq_eq_false_iff_ne]; intro h; exact hall (hca.1 (by omega))
    have HR : Hid (v = 60 :: (joinC (rowsT a) ++ [62])) := by unfold Hid; rw [← HV.out]; exact clsT_some hall
    have HLB : Hid ((joinC (rowsT a)).length ≤ 1000) := by
      have h1 := clsT_len a
      have h2 : cntU a 256 ≤ 256 := cntU_le a 256
      rw [clsT_some hall] at h1
      simp at h1
      unfold Hid
      omega
    clear hca hall
    go_upto_region 4 with (fail)
    go_wp2
    go_loopw [3, 4] (PcL w a) (fun _ i _ => 257 - (intOf i).toNat)
    case atStart => exact ⟨0, 256, [], by omega, by omega, by simp, by simp, rfl, HS2.out⟩
    case round =>
      obtain ⟨p, f, l, hp, hf, hll, hl, rfl, hs⟩ := hrel
      have HS := Lib.hid hs
      have HL := Lib.hid hl
      clear hs hl
      by_cases hlt : p < 256
      · obtain ⟨f, rfl⟩ : ∃ f', f = f' + 1 := ⟨f - 1, by omega⟩
        have hltz : (p : Int) < 256 := by omega
        have hp5 : (p : Int) ≤ 255 := by omega
        obtain ⟨c0, c1, c2, c3⟩ := four_cells6 HS.out.box
        have CH := Lib.hid (HH.out p hlt)
        cases hbit : a.getLsbD p with
        | false =>
          rw [hbit] at CH
          have HE : Hid (l ++ rowsF a f (p + 1) = rowsF a 256 0) := by unfold Hid; rw [← HL.out, rowsF_no hlt hbit]
          clear hbit
          go_wp2_with fail
          refine (CH.out _).mono ?_; rintro e w3 ⟨rfl, hb⟩
          have HS3 := Lib.hid (HS.out.later hb)
          clear hb c0 c1 c2 c3
          go_wp2
          go_roundw
          case rel => exact ⟨p + 1, f, l, by omega, by omega, by omega, HE.out, by go_num, HS3.out⟩
          case measure => simp [intOf]; omega
        | true =>
          rw [hbit] at CH
          obtain ⟨q, hq⟩ : ∃ q, lastF a 256 p = q := ⟨_, rfl⟩
          have hok := lastF_ok a 256 p hlt (by omega) hbit
          rw [hq] at hok
          obtain ⟨hpq, hq6, -, -⟩ := hok
          have HE : Hid ((l ++ [(p, q)]) ++ rowsF a f (q + 1) = rowsF a 256 0) := by unfold Hid; rw [← HL.out, rowsF_yes hlt hbit, hq, List.append_assoc]; rfl
          have HQ := Lib.hid hq
          clear hbit hq
          go_wp2_with fail
          refine (CH.out _).mono ?_; rintro e w3 ⟨rfl, hb⟩
          have HS3 := Lib.hid (HS.out.later hb)
          clear hb c0 c1 c2 c3 HS HL CH
          go_wp2
          have HI0 : Hid (PcI w a (txR l) u3 q (.int .i64 (p : Int)) w3) := ⟨p, 256, hlt, by omega, HQ.out, rfl, HS3.out⟩
          clear hltz hp5
          go_loopw [5] (PcI w a (txR l) u3 q) (fun i _ => 257 - (intOf i).toNat)
          case atStart => exact HI0.out
          case round =>
            obtain ⟨j, g, hj, hg, hjq, rfl, hs⟩ := hrel
            have HSJ := Lib.hid hs
            clear hs
            obtain ⟨g, rfl⟩ : ∃ g', g = g' + 1 := ⟨g - 1, by omega⟩
            by_cases hj1 : j + 1 < 256
            · have hjz : (j : Int) + 1 < 256 := by omega
              have hj5 : (j : Int) + 1 ≤ 255 := by omega
              obtain ⟨c0, c1, c2, c3⟩ := four_cells6 HSJ.out.box
              have CH := Lib.hid (HH.out (j + 1) hj1)
              have ecast : ((j + 1 : Nat) : Int) = (j : Int) + 1 := by omega
              rw [ecast] at CH
              cases hbit : a.getLsbD (j + 1) with
              | false =>
                rw [hbit] at CH
                have hqj : q = j := by rw [← hjq]; unfold lastF; rw [if_neg (by rw [hbit]; simp)]
                clear hbit hjq
                subst hqj
                go_wp2_with fail
                refine (CH.out _).mono ?_; rintro e w4 ⟨rfl, hb⟩
                have HS4 := Lib.hid (HSJ.out.later hb)
                clear hb c0 c1 c2 c3 CH HSJ
                clear hjz hj5 ecast
                have hq5 : (q : Int) ≤ 255 := by omega
                have hp5 : (p : Int) ≤ 255 := by omega
                go_wp2_with fail
                refine (row_any6 p q hlt hq6 _).mono ?_; rintro e w5 ⟨rfl, hb⟩
                have HS5 := Lib.hid (HS4.out.later hb)
                have hal := (Below.refl w5.heap.size w5).alloc (Nat.le_refl _) (.cells #[.string (bs (rowT p q))] 9)
                have HS6 := Lib.hid (HS5.out.later hal)
                have HX6 := Lib.hid (Blk.new w5 #[.string (bs (rowT p q))] 9)
                clear hb hal
                have hlow6 := HS6.out.low
                have HTL : Hid ((txR l).length < 1073741824) := by unfold Hid txR; rw [List.length_map]; omega
                go_wp2_with (at_builtin; refine wpList_append_str rfl _ _ rfl (w.heap.size + 1) _ (txR l) rfl HS6.out.own w5.heap.size (rowT p q) rfl HX6.out HTL.out hlow6 ?_; intro v' w7 h1 h2 h3; have HO7 := Lib.hid h1; have HB7 := Lib.hid ((Below.refl (w.heap.size + 1) _).grown h2 hlow6 (fun k hk => (World.ownsRow.lt HS6.out.own k hk).1)); clear h1 h2 h3)
                have HS7 : Hid (PcS w a (txR (l ++ [(p, q)])) v' w7) := ⟨HS6.out.bel.trans (HB7.out.mono (Nat.le_succ _)), HS6.out.box.below HB7.out (Nat.lt_succ_self _), by have := HO7.out; unfold txR at this ⊢; rw [List.map_append]; exact this, Nat.le_trans hlow6 HB7.out.size⟩
                go_roundw
                case rel => exact ⟨q + 1, f, l ++ [(p, q)], by omega, by omega, by rw [List.length_append]; simp; omega, HE.out, by go_num, HS7.out⟩
                case measure => simp [intOf]; omega
              | true =>
                rw [hbit] at CH
                have hqj : lastF a g (j + 1) = q := by rw [← hjq]; conv => rhs; unfold lastF
                                                       rw [if_pos ⟨hj1, hbit⟩]
                clear hbit hjq
                go_wp2_with fail
                refine (CH.out _).mono ?_; rintro e w4 ⟨rfl, hb⟩
                have HS4 := Lib.hid (HSJ.out.later hb)
                clear hb c0 c1 c2 c3 CH HSJ
                go_wp2
                go_roundw
                case rel => exact ⟨j + 1, g, hj1, by omega, hqj, by go_num, HS4.out⟩
                case measure => simp [intOf]; omega
            · have hjz : ¬ (j : Int) + 1 < 256 := by omega
              have hqj : q = j := by rw [← hjq]; unfold lastF; rw [if_neg (by omega)]
              clear hjq
              subst hqj
              have hq5 : (q : Int) ≤ 255 := by omega
              have hp5 : (p : Int) ≤ 255 := by omega
              go_wp2_with fail
              refine (row_any6 p q hlt hq6 _).mono ?_; rintro e w5 ⟨rfl, hb⟩
              have HS5 := Lib.hid (HSJ.out.later hb)
              have hal := (Below.refl w5.heap.size w5).alloc (Nat.le_refl _) (.cells #[.string (bs (rowT p q))] 9)
              have HS6 := Lib.hid (HS5.out.later hal)
              have HX6 := Lib.hid (Blk.new w5 #[.string (bs (rowT p q))] 9)
              clear hb hal
              have hlow6 := HS6.out.low
              have HTL : Hid ((txR l).length < 1073741824) := by unfold Hid txR; rw [List.length_map]; omega
              go_wp2_with (at_builtin; refine wpList_append_str rfl _ _ rfl (w.heap.size + 1) _ (txR l) rfl HS6.out.own w5.heap.size (rowT p q) rfl HX6.out HTL.out hlow6 ?_; intro v' w7 h1 h2 h3; have HO7 := Lib.hid h1; have HB7 := Lib.hid ((Below.refl (w.heap.size + 1) _).grown h2 hlow6 (fun k hk => (World.ownsRow.lt HS6.out.own k hk).1)); clear h1 h2 h3)
              have HS7 : Hid (PcS w a (txR (l ++ [(p, q)])) v' w7) := ⟨HS6.out.bel.trans (HB7.out.mono (Nat.le_succ _)), HS6.out.box.below HB7.out (Nat.lt_succ_self _), by have := HO7.out; unfold txR at this ⊢; rw [List.map_append]; exact this, Nat.le_trans hlow6 HB7.out.size⟩
              go_roundw
              case rel => exact ⟨q + 1, f, l ++ [(p, q)], by omega, by omega, by rw [List.length_append]; simp; omega, HE.out, by go_num, HS7.out⟩
              case measure => simp [intOf]; omega
      · obtain rfl : p = 256 := by omega
        have HE : Hid (txR l = rowsT a) := by
          have := HL.out
          rw [rowsF_end, List.append_nil] at this
          unfold Hid txR rowsT; rw [this]
        have hlast : ¬ ((256 : Nat) : Int) < 256 := by omega
        obtain ⟨A, cap, rfl, hcap, hrow⟩ := HS.out.own.row2
        rw [HE.out] at hcap hrow ⊢
        have HCAP := Lib.hid hcap
        have HROW := Lib.hid hrow
        have HN : Hid ((rowsT a).length ≤ 1000) := by
          rw [← HE.out]; unfold Hid txR; rw [List.length_map]; omega
        clear hcap hrow
        go_wp2_with fail
        refine (sjoin_any (rowsT a) A cap HCAP.out HN.out (by have := HLB.out; omega) _ HROW.out).mono ?_; rintro e w3 ⟨rfl, hb⟩
        have HB3 := Lib.hid (HS.out.bel.trans (hb.mono HS.out.bel.size))
        clear hb
        have HV2 : Hid (⟨#[60]⟩ ++ bs (joinC (rowsT a)) ++ ⟨#[62]⟩ = bs v) := by
          unfold Hid
          rw [HR.out, show (⟨#[60]⟩ : ByteArray) = bs [60] from rfl, show (⟨#[62]⟩ : ByteArray) = bs [62] from rfl, bs_append, bs_append]; rfl
        have hsz : (bs (joinC (rowsT a))).size ≤ 1000 := by rw [bs_size]; exact HLB.out
        go_wp2
        go_ret
        exact ⟨by rw [← HV2.out]; rfl, HB3.out⟩
end Go.Proofs.YtpbadglfegcdjaaGreatDoor
