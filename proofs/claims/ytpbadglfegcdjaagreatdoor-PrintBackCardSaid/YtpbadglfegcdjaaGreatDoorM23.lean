/- Digits and rows of a class' text: walked. -/
import Derived.Test.YtpbadglfegcdjaaGreatDoorM04
import Derived.Test.YtpbadglfegcdjaaGreatDoorM08
import Derived.Test.YtpbadglfegcdjaaGreatDoorM03
import Derived.Test.YtpbadglfegcdjaaGreatDoorM22
import Derived.Laws.IdiomStrings
namespace Go.Proofs.YtpbadglfegcdjaaGreatDoor
open Go Go.RowKit
set_option linter.unusedVariables false
set_option linter.unusedSimpArgs false

theorem dgt_fin : ∀ q : Fin 16, (⟨#[48, 49, 50, 51, 52, 53, 54, 55, 56, 57, 97, 98, 99, 100, 101, 102]⟩ : ByteArray).data.toList.getD q.val 0 = digT q.val := by decide
theorem dgt_idx (q : Nat) (h : q < (⟨#[48, 49, 50, 51, 52, 53, 54, 55, 56, 57, 97, 98, 99, 100, 101, 102]⟩ : ByteArray).size) : (⟨#[48, 49, 50, 51, 52, 53, 54, 55, 56, 57, 97, 98, 99, 100, 101, 102]⟩ : ByteArray)[q]'h = digT q := by
  have h16 : q < 16 := h
  have := dgt_fin ⟨q, h16⟩
  rw [← this, List.getD_eq_getElem?_getD, List.getElem?_eq_getElem (by simpa using h16)]; rfl
set_option maxHeartbeats 4000000 in
set_option maxRecDepth 100000 in
theorem hex_any6 (c : Nat) (hc : c < 256) (w : World) : Calls Tryz.prog 49 #[.int .u8 (c : Int)] w (Ans w (.string (bs (hexT c)))) := by
  go_enter Tryz.func49, Tryz.ntmps49
  go_upto_region 1 with (fail)
  refine wp_region_stable_tail 6 (S := (Below w.heap.size w)) (hSt := fun _ _ h hb => h.trans (hb.mono h.size)) (plan := [[(0, none)], [(3, some 0)], [(4, some 1)], [(0, none)], [(6, some 3)], [(7, some 4)]]) rfl rfl (by kernel_rfl) (by kernel_rfl) (by kernel_rfl) (by kernel_rfl) ?hS ?_
  rotate_left
  iterate 6 first
    | (refine chain_skip (by rfl) (by rfl) ?_)
    | (apply chain_want (by rfl)
       · intro act wx hS hr
         simp at hr
         have h1 : (0 : Int) ≤ (c : Int) / 16 := by omega
         have h2 : (c : Int) / 16 < 16 := by omega
         have h3 : (0 : Int) ≤ (c : Int) % 16 := by omega
         have h4 : (c : Int) % 16 < 16 := by omega
         go_simp
         (try go_ints)
         first
           | (rw [dgt_idx]; exact Done.same)
           | exact Done.same
      )
  show ∀ w', _ → _
  intro wz hz
  simp [Act.put]
  case hS => exact Below.refl _ _
  have HZ := Lib.hid (hz.trans (((Below.refl _ _).alloc (Nat.le_refl _) (.cells #[.int .u8 ((digT (c / 16)).toNat : Int), .int .u8 ((digT (c % 16)).toNat : Int)] 5)).mono hz.size))
  have hk := Blk.new wz #[.int .u8 ((digT (c / 16)).toNat : Int), .int .u8 ((digT (c % 16)).toNat : Int)] 5
  have hcv : (convert 59 9 (.slice (some ⟨wz.heap.size, 0, none⟩) 2 2)).run Tryz.prog (wz.alloc (.cells #[.int .u8 ((digT (c / 16)).toNat : Int), .int .u8 ((digT (c % 16)).toNat : Int)] 5)) = .ok (.string (bs (hexT c))) (wz.alloc (.cells #[.int .u8 ((digT (c / 16)).toNat : Int), .int .u8 ((digT (c % 16)).toNat : Int)] 5)) :=
    run_convert_bytes_back (P := Tryz.prog) (wz.alloc (.cells #[.int .u8 ((digT (c / 16)).toNat : Int), .int .u8 ((digT (c % 16)).toNat : Int)] 5)) 59 9 5 ⟨wz.heap.size, 0, none⟩ 2 [digT (c / 16), digT (c % 16)] Tryz.underlying59 Tryz.underlying5 Tryz.underlying9 (fun j hj => by
      have hj2 : j < 2 := hj
      obtain rfl | rfl : j = 0 ∨ j = 1 := by omega
      · exact (hk.cell 0).trans rfl
      · exact (hk.cell 1).trans rfl)
  clear hz hk
  go_wp2
  go_ret
  exact ⟨rfl, HZ.out⟩
theorem bs_cat (a b : List UInt8) : bs a ++ bs b = bs (a ++ b) := bs_append a b
set_option maxHeartbeats 4000000 in
set_option maxRecDepth 100000 in
theorem row_any6 (a b : Nat) (ha : a < 256) (hb : b < 256) (w : World) : Calls Tryz.prog 31 #[.int .u8 (a : Int), .int .u8 (b : Int)] w (Ans w (.string (bs (rowT a b)))) := by
  go_enter Tryz.func31, Tryz.ntmps31
  by_cases he : a = b
  · subst he
    have hz : ((a : Int) == (a : Int)) = true := by simp
    have HR : Hid (rowT a a = hexT a) := by unfold Hid rowT; rw [if_pos rfl]
    go_wp2_with fail
    refine (hex_any6 a ha _).mono ?_; rintro e w2 ⟨rfl, hb2⟩
    have HB := Lib.hid hb2
    clear hb2
    go_wp2
    go_ret
    exact ⟨by rw [HR.out]; rfl, HB.out⟩
  · have hz : ((a : Int) == (b : Int)) = false := by rw [beq_eq_false_iff_ne]; omega
    have HR : Hid (rowT a b = hexT a ++ 45 :: hexT b) := by unfold Hid rowT; rw [if_neg he]
    go_wp2_with fail
    refine (hex_any6 a ha _).mono ?_; rintro e w2 ⟨rfl, hb2⟩
    go_wp2_with fail
    refine (hex_any6 b hb _).mono ?_; rintro e w3 ⟨rfl, hb3⟩
    have HB := Lib.hid (hb2.trans (hb3.mono hb2.size))
    clear hb2 hb3
    have HC : Hid (bs (hexT a) ++ ⟨#[45]⟩ ++ bs (hexT b) = bs (rowT a b)) := by
      unfold Hid
      rw [HR.out, show (⟨#[45]⟩ : ByteArray) = bs [45] from rfl, bs_append, bs_append, List.append_assoc]; rfl
    go_wp2
    go_ret
    exact ⟨by rw [← HC.out]; rfl, HB.out⟩
end Go.Proofs.YtpbadglfegcdjaaGreatDoor
/- The pieces of a text are read to tokens: plain mathematics. -/
namespace Go.Proofs.YtpbadglfegcdjaaGreatDoor
open Go
set_option linter.unusedVariables false
set_option linter.unusedSimpArgs false

/-- A piece is read to a token, whatever stands behind it. -/
def ReadsP (s : List UInt8) (t : Tok) : Prop := ∃ c r, s = c :: r ∧ c ≠ 32 ∧ ∀ rest, oneV c (r ++ rest) = .tok t r.length
theorem ReadsP.read {s : List UInt8} {t : Tok} (h : ReadsP s t) (rest : List UInt8) (p : Nat) : readL (s ++ rest) p 0 = (readL rest (p + s.length) 0).map fun l => { t with at_ := p } :: l := by
  obtain ⟨c, r, rfl, hc, ho⟩ := h
  show (if c = 32 then _ else match oneV c (r ++ rest) with | .bad e => _ | .tok t n => _) = _
  rw [if_neg hc, ho rest]
  show (readL (r ++ rest) (p + 1) r.length).map _ = _
  rw [readL_skip (r ++ rest) (p + 1) r.length r.length (Nat.le_refl _) (by simp), Nat.sub_self, List.drop_left]
  rw [show p + 1 + r.length = p + (c :: r).length by simp; omega]
/-- Tokens where their pieces stand, and the end. -/
def placeT : Nat → List (List UInt8) → List Tok → List Tok
  | p, s :: ss, t :: ts => { t with at_ := p } :: placeT (p + s.length) ss ts
  | p, _, _ => [{ kind := 10, at_ := p }]
/-- Pieces and their tokens, one by one. -/
inductive ReadsA : List (List UInt8) → List Tok → Prop where
  | nil : ReadsA [] []
  | cons {s t ss ts} : ReadsP s t → ReadsA ss ts → ReadsA (s :: ss) (t :: ts)
theorem ReadsA.read {ss : List (List UInt8)} {ts : List Tok} (h : ReadsA ss ts) : ∀ p, readL ss.flatten p 0 = .ok (placeT p ss ts) := by
  induction h with
  | nil => intro p; exact readL_nil p 0
  | cons h _ ih => intro p; rw [List.flatten_cons, h.read, ih]; rfl
theorem ReadsA.append {a b : List (List UInt8)} {x y : List Tok} (h : ReadsA a x) (k : ReadsA b y) : ReadsA (a ++ b) (x ++ y) := by
  induction h with
  | nil => exact k
  | cons h _ ih => exact .cons h ih
theorem reads_sign (c : UInt8) (k : Nat) (h : c ≠ 32) (ho : ∀ rest, oneV c rest = .tok { kind := k, at_ := 0 } 0) : ReadsP [c] { kind := k, at_ := 0 } := ⟨c, [], rfl, h, fun rest => ho rest⟩
theorem reads_open : ReadsP [40] { kind := 3, at_ := 0 } := reads_sign 40 3 (by decide) (fun _ => rfl)
theorem reads_shut : ReadsP [41] { kind := 4, at_ := 0 } := reads_sign 41 4 (by decide) (fun _ => rfl)
theorem reads_or : ReadsP [124] { kind := 5, at_ := 0 } := reads_sign 124 5 (by decide) (fun _ => rfl)
theorem reads_star : ReadsP [42] { kind := 6, at_ := 0 } := reads_sign 42 6 (by decide) (fun _ => rfl)
theorem reads_b : ReadsP [98] { kind := 8, at_ := 0 } := reads_sign 98 8 (by decide) (fun _ => rfl)
theorem reads_w : ReadsP [119] { kind := 9, at_ := 0 } := reads_sign 119 9 (by decide) (fun _ => rfl)
theorem reads_cls (c : BitVec 256) : ReadsP (clsT c) { kind := 1, at_ := 0, cls := c } := by
  unfold clsT
  split
  · rename_i h; subst h
    exact ⟨46, [], rfl, by decide, fun _ => rfl⟩
  · refine ⟨60, _, rfl, by decide, fun rest => ?_⟩
    have hin := joinC_in (rowsT c) (fun x hx d hd => (rowsT_in c x hx d hd).1)
    show closed 62 2 ((joinC (rowsT c) ++ [62]) ++ rest) _ = _
    have hc : cutAt 62 ((joinC (rowsT c) ++ [62]) ++ rest) = some (joinC (rowsT c), rest) := by
      rw [List.append_assoc]; exact cutAt_app (fun h => (hin 62 h).2.2.2.1 rfl)
    unfold closed
    rw [hc]
    simp only [classV_rows, List.length_append, List.length_singleton]
theorem reads_text (t : List UInt8) (h0 : t ≠ []) (h1 : utf8L t = true) (h2 : (34 : UInt8) ∉ t) : ReadsP (34 :: (t ++ [34])) { kind := 2, at_ := 0, text := t } := by
  refine ⟨34, _, rfl, by decide, fun rest => ?_⟩
  show closed 34 3 ((t ++ [34]) ++ rest) _ = _
  have hc : cutAt 34 ((t ++ [34]) ++ rest) = some (t, rest) := by
    rw [List.append_assoc]; exact cutAt_app h2
  unfold closed
  rw [hc]
  have ht : textV t = some t := by unfold textV; rw [if_neg (by simp [h0, h1])]
  simp only [ht, List.length_append, List.length_singleton]
/-- A number's digits. -/
def decT (n : Nat) : List UInt8 := if n < 10 then [UInt8.ofNat (48 + n)] else if n < 100 then [UInt8.ofNat (48 + n / 10), UInt8.ofNat (48 + n % 10)] else [UInt8.ofNat (48 + n / 100), UInt8.ofNat (48 + n / 10 % 10), UInt8.ofNat (48 + n % 10)]
theorem numV_decT : ∀ n : Fin 256, numV (decT n.val) = some n.val := by decide +kernel
theorem decT_in : ∀ n : Fin 256, ∀ c ∈ decT n.val, c ≠ 34 ∧ c ≠ 40 ∧ c ≠ 41 ∧ c ≠ 44 ∧ c ≠ 125 := by decide +kernel
def repT (lo hi : Nat) : List UInt8 := 123 :: (decT lo ++ 44 :: (decT hi ++ [125]))
theorem reads_rep (lo hi : Nat) (h : lo ≤ hi) (hh : hi < 256) : ReadsP (repT lo hi) { kind := 7, at_ := 0, lo := lo, hi := hi } := by
  refine ⟨123, _, rfl, by decide, fun rest => ?_⟩
  have L := decT_in ⟨lo, by omega⟩
  have H := decT_in ⟨hi, hh⟩
  show closed 125 4 ((decT lo ++ 44 :: (decT hi ++ [125])) ++ rest) _ = _
  have hc : cutAt 125 ((decT lo ++ 44 :: (decT hi ++ [125])) ++ rest) = some (decT lo ++ 44 :: decT hi, rest) := by
    rw [show (decT lo ++ 44 :: (decT hi ++ [125])) ++ rest = (decT lo ++ 44 :: decT hi) ++ 125 :: rest by simp]
    refine cutAt_app (fun hm => ?_)
    rcases List.mem_append.mp hm with hm | hm
    · exact (L _ hm).2.2.2.2 rfl
    · rcases List.mem_cons.mp hm with hm | hm
      · cases hm
      · exact (H _ hm).2.2.2.2 rfl
  unfold closed
  rw [hc]
  have hr : repV (decT lo ++ 44 :: decT hi) = some (lo, hi) := by
    unfold repV
    rw [cutAt_app (fun hm => (L _ hm).2.2.2.1 rfl)]
    simp only [numV_decT ⟨lo, by omega⟩, numV_decT ⟨hi, hh⟩]
  simp only [hr]
  rw [if_neg (by omega)]
  congr 1
  simp; omega
theorem repT_plain (lo hi : Nat) (hl : lo < 256) (hh : hi < 256) : PlainS (repT lo hi) := by
  have L := decT_in ⟨lo, hl⟩
  have H := decT_in ⟨hi, hh⟩
  intro d hd
  rcases List.mem_cons.mp hd with rfl | hd
  · decide
  rcases List.mem_append.mp hd with hd | hd
  · have := L d hd; exact ⟨this.1, this.2.1, this.2.2.1⟩
  rcases List.mem_cons.mp hd with rfl | hd
  · decide
  rcases List.mem_append.mp hd with hd | hd
  · have := H d hd; exact ⟨this.1, this.2.1, this.2.2.1⟩
  · simp at hd; subst hd; decide
end Go.Proofs.YtpbadglfegcdjaaGreatDoor
/- The tokens of a text that is too deep: plain mathematics. -/
namespace Go.Proofs.YtpbadglfegcdjaaGreatDoor
open Go
set_option linter.unusedVariables false
set_option linter.unusedSimpArgs false

/-- Too deep, by the level at which it is read. -/
def BaP (L : List Tk) (lev : Int) (s : PS) (p : Int) : Prop :=
  if lev = 3 then Runs L .atom s (.bad 8 p)
  else if lev = 2 then Runs L .post s (.bad 8 p)
  else if lev = 1 then Runs L .row s (.bad 8 p)
  else Runs L .or s (.bad 8 p)
theorem BaP.down {L : List Tk} {s : PS} {p lv lev : Int} (h : BaP L lv s p) (h0 : lv = 0 ∨ lv = 1 ∨ lv = 2 ∨ lv = 3) (h1 : lev = 0 ∨ lev = 1 ∨ lev = 2 ∨ lev = 3) (hle : lev ≤ lv) : BaP L lev s p := by
  have f3 : BaP L 3 s p → BaP L 2 s p := fun h => Runs.postB h
  have f2 : BaP L 2 s p → BaP L 1 s p := fun h => Runs.rowB h
  have f1 : BaP L 1 s p → BaP L 0 s p := fun h => Runs.orB h
  rcases h0 with rfl | rfl | rfl | rfl <;> rcases h1 with rfl | rfl | rfl | rfl <;> first
    | exact h
    | (exfalso; omega)
    | exact f1 h
    | exact f2 h
    | exact f1 (f2 h)
    | exact f3 h
    | exact f2 (f3 h)
    | exact f1 (f2 (f3 h))
/-- Brackets that are too deep, or in which it is. -/
theorem brackB {L : List Tk} {s : PS} {ts : List Tk} (h : Here L s.read (brT ts)) (hb : begK (tkAt L (s.read + 1)).kind = true) (hg : s.opn.length < 64 → ∃ p, BaP L 0 (s.into L) p) : ∃ p, Runs L .group s (.bad 8 p) := by
  have e3 : (tkAt L s.read).kind = 3 := (Here.head h).1.1
  rcases Nat.lt_or_ge s.opn.length 64 with h1 | h1
  · obtain ⟨p, hp⟩ := hg h1
    refine ⟨p, Runs.groupB e3 h1 (Runs.inside ?_ hp)⟩
    intro e
    have : (s.into L).read = s.read + 1 := rfl
    rw [this] at e; rw [e] at hb; exact absurd hb (by decide)
  · exact ⟨_, Runs.groupDeep e3 h1⟩
theorem deep_back (l : List Nd) (hok : ∀ j, j < l.length → okN l j (atN l j)) (h4 : l.length ≤ 4096) (L : List Tk) : ∀ i, i < l.length →
    (∀ s, At l s (firstP l i) → Here L s.read (tkP (tkF l i) (atN l i)) → s.opn.length ≤ 64 → 64 < s.opn.length + dpP (dpF l i) (atN l i) → ∃ p, BaP L (levK (atN l i).kind) s p) ∧
    (∀ lev : Int, (lev = 0 ∨ lev = 1 ∨ lev = 2 ∨ lev = 3) → ∀ s, At l s (firstP l i) → Here L s.read (tkF l (i + 1) (i : Int) lev) → s.opn.length ≤ 64 → 64 < s.opn.length + dpF l (i + 1) (i : Int) lev → ∃ p, BaP L lev s p) := by
  intro i
  induction i using Nat.strongRecOn with
  | ind i ih =>
    intro hi
    have hn := hok i hi
    have hp := ok_parts hn
    have own : ∀ s, At l s (firstP l i) → Here L s.read (tkP (tkF l i) (atN l i)) → s.opn.length ≤ 64 → 64 < s.opn.length + dpP (dpF l i) (atN l i) → ∃ p, BaP L (levK (atN l i).kind) s p := by
      intro s ha hh hs hd
      obtain ⟨x, hx⟩ : ∃ x, atN l i = x := ⟨_, rfl⟩
      rw [hx] at hp hh hd ⊢
      rcases hp with ⟨hk, hf⟩ | ⟨q, hq, hxa, hf, hk⟩ | ⟨q, p, hq, hxb, hxa, hfq, hf, hpq, hk⟩
      · rcases hk with hk | hk | hk
        · have e : tkP (tkF l i) x = [{ kind := 3 }, { kind := 4 }] := by unfold tkP; rw [if_pos hk]
          have e2 : dpP (dpF l i) x = 1 := by unfold dpP; rw [if_pos hk]
          rw [e] at hh
          rw [e2] at hd
          have e3 : (tkAt L s.read).kind = 3 := (Here.head hh).1.1
          rw [hk]
          exact ⟨_, Runs.atomG e3 (Runs.groupDeep e3 (by omega))⟩
        · have e2 : dpP (dpF l i) x = 0 := by unfold dpP; simp [hk]
          omega
        · have e2 : dpP (dpF l i) x = 0 := by unfold dpP; simp [hk]
          omega
      · rw [hf] at ha
        have IH := (ih q (by omega) (by omega)).2
        subst hq
        rcases hk with hk | hk | hk
        · have e : tkP (tkF l (q + 1)) x = tkF l (q + 1) (q : Int) 2 ++ [{ kind := 6 }] := by unfold tkP; simp [hk, hxa]
          have e2 : dpP (dpF l (q + 1)) x = dpF l (q + 1) (q : Int) 2 := by unfold dpP; simp [hk, hxa]
          rw [e] at hh
          rw [e2] at hd
          rw [hk]
          exact IH 2 (by omega) s ha hh.left hs hd
        · have e : tkP (tkF l (q + 1)) x = tkF l (q + 1) (q : Int) 2 ++ [{ kind := 7, lo := x.lo, hi := x.hi }] := by unfold tkP; simp [hk, hxa]
          have e2 : dpP (dpF l (q + 1)) x = dpF l (q + 1) (q : Int) 2 := by unfold dpP; simp [hk, hxa]
          rw [e] at hh
          rw [e2] at hd
          rw [hk]
          exact IH 2 (by omega) s ha hh.left hs hd
        · have e : tkP (tkF l (q + 1)) x = { kind := x.kind } :: brT (tkF l (q + 1) (q : Int) 0) := by unfold tkP brT; rcases hk with hk | hk <;> simp [hk, hxa]
          have e2 : dpP (dpF l (q + 1)) x = dpF l (q + 1) (q : Int) 0 + 1 := by unfold dpP; rcases hk with hk | hk <;> simp [hk, hxa]
          rw [e] at hh
          rw [e2] at hd
          obtain ⟨qk, hbr⟩ := Here.head hh
          have hin : Here L (s.read + 1 + 1) (tkF l (q + 1) (q : Int) 0) := (Here.head hbr).2.left
          have hbeg := (tk_begs l hok q (by omega) (q + 1) (by omega)).2 0
          have hb1 : begK (tkAt L (s.next.read + 1)).kind = true := by
            have := (hin 0 hbeg.1).1
            rw [Nat.add_zero] at this
            show begK (tkAt L (s.read + 1 + 1)).kind = true
            rw [this]; exact hbeg.2
          obtain ⟨p, R⟩ := brackB (s := s.next) hbr hb1 (fun h64 => IH 0 (by omega) (s.next.into L) ha.next.into hin (by
            show (s.opn ++ [_]).length ≤ 64
            have : s.opn.length < 64 := h64
            rw [List.length_append]; simp; omega) (by
            show 64 < (s.opn ++ [_]).length + _
            rw [List.length_append]; simp; omega))
          have hl3 : levK x.kind = 3 := by unfold levK; rcases hk with hk | hk <;> simp [hk]
          rw [hl3]
          exact ⟨p, Runs.frameB qk.1 hk R⟩
      · rw [hf] at ha
        have IHq := (ih q (by omega) (by omega)).2
        have IHp := (ih p (by omega) (by omega)).2
        have HB := (here_back l hok h4 L p (by omega)).2
        subst hq
        have mp := fun lev => tkF_more l hok p (by omega) (q + 1) (p + 1) (by omega) (by omega) lev
        rcases hk with hk | hk
        · have e : tkP (tkF l (q + 1)) x = tkF l (p + 1) (p : Int) 1 ++ tkF l (q + 1) (q : Int) 2 := by unfold tkP; simp [hk, hxa, hxb, (mp 1).1]
          have e2 : dpP (dpF l (q + 1)) x = max (dpF l (p + 1) (p : Int) 1) (dpF l (q + 1) (q : Int) 2) := by unfold dpP; simp [hk, hxa, hxb, (mp 1).2]
          rw [e] at hh
          rw [e2] at hd
          rw [hk]
          by_cases hA : 64 < s.opn.length + dpF l (p + 1) (p : Int) 1
          · exact IHp 1 (by omega) s ha hh.left hs hA
          · obtain ⟨t1, r1, o1, a1, g1⟩ := HB 1 (by omega) s ha hh.left (by omega)
            rw [← hfq] at a1
            obtain ⟨w, R⟩ := IHq 2 (by omega) t1 a1 (by rw [r1]; exact hh.right) (by rw [o1]; exact hs) (by rw [o1]; omega)
            have hbeg := (tk_begs l hok q (by omega) (q + 1) (by omega)).2 2
            have hb1 : begK (tkAt L t1.read).kind = true := by
              have := (hh.right 0 hbeg.1).1
              rw [Nat.add_zero, ← r1] at this
              rw [this]; exact hbeg.2
            exact ⟨w, g1 (fun e => by rw [e] at hb1; exact absurd hb1 (by decide)) (fun e => by rw [e] at hb1; exact absurd hb1 (by decide)) _ (Runs.rowLB hb1 R)⟩
        · have e : tkP (tkF l (q + 1)) x = tkF l (p + 1) (p : Int) 0 ++ ({ kind := 5 } :: tkF l (q + 1) (q : Int) 1) := by unfold tkP; simp [hk, hxa, hxb, (mp 0).1]
          have e2 : dpP (dpF l (q + 1)) x = max (dpF l (p + 1) (p : Int) 0) (dpF l (q + 1) (q : Int) 1) := by unfold dpP; simp [hk, hxa, hxb, (mp 0).2]
          rw [e] at hh
          rw [e2] at hd
          rw [hk]
          by_cases hA : 64 < s.opn.length + dpF l (p + 1) (p : Int) 0
          · exact IHp 0 (by omega) s ha hh.left hs hA
          · obtain ⟨t1, r1, o1, a1, g1⟩ := HB 0 (by omega) s ha hh.left (by omega)
            obtain ⟨q5, hB⟩ := Here.head hh.right
            rw [← r1] at q5 hB
            have e5 : (tkAt L t1.read).kind = 5 := q5.1
            rw [← hfq] at a1
            obtain ⟨w, R⟩ := IHq 1 (by omega) t1.next a1.next hB (by show t1.opn.length ≤ 64; rw [o1]; exact hs) (by show 64 < t1.opn.length + _; rw [o1]; omega)
            exact ⟨w, g1 (by rw [e5]; rfl) (by rw [e5]; decide) (by rw [e5]; decide) _ (Runs.orLB e5 R)⟩
    refine ⟨own, fun lev hlev s ha hh hs hd => ?_⟩
    rw [tkF_succ, Int.toNat_natCast] at hh
    rw [dpF_succ, Int.toNat_natCast] at hd
    split at hh
    · rename_i hlt
      rw [if_pos hlt] at hd
      have hin : Here L (s.read + 1) (tkP (tkF l i) (atN l i)) := (Here.head hh).2.left
      have hbeg := (tk_begs l hok i hi (i + 1) (by omega)).1
      rw [Nat.add_sub_cancel] at hbeg
      have hb1 : begK (tkAt L (s.read + 1)).kind = true := by
        have := (hin 0 hbeg.1).1
        rw [Nat.add_zero] at this
        rw [this]; exact hbeg.2
      obtain ⟨w, R⟩ := brackB (s := s) hh hb1 (fun h64 => by
        obtain ⟨w, R⟩ := own (s.into L) ha.into hin (by
          show (s.opn ++ [_]).length ≤ 64
          rw [List.length_append]; simp; omega) (by
          show 64 < (s.opn ++ [_]).length + _
          rw [List.length_append]; simp; omega)
        exact ⟨w, R.down (lev_four _) (.inl rfl) (by rcases lev_four (atN l i).kind with h | h | h | h <;> omega)⟩)
      exact ⟨w, BaP.down (lv := 3) (show BaP L 3 s w from Runs.atomG (Here.head hh).1.1 R) (.inr (.inr (.inr rfl))) hlev (by omega)⟩
    · rename_i hle
      rw [if_neg hle] at hd
      obtain ⟨w, R⟩ := own s ha hh hs hd
      exact ⟨w, R.down (lev_four _) hlev (by omega)⟩
/-- The tokens of a description's text that is too deep are told so. -/
theorem print_deep {l : List Nd} (hf : Form l) (h4 : l.length ≤ 4096) {L : List Tk} (hh : Here L 0 (tkF l l.length ((l.length : Int) - 1) 0)) (hd : 64 < dpF l l.length ((l.length : Int) - 1) 0) : ∃ p, parseP L = .bad 8 p := by
  obtain ⟨hpos, hok, hfirst⟩ := hf
  obtain ⟨i, hi⟩ : ∃ i, l.length = i + 1 := ⟨l.length - 1, by omega⟩
  have ei : (l.length : Int) - 1 = (i : Int) := by omega
  rw [ei, hi] at hh hd
  rw [hi, Nat.add_sub_cancel] at hfirst
  obtain ⟨p, R⟩ := (deep_back l hok h4 L i (by omega)).2 0 (.inl rfl) {} (by rw [hfirst]; exact ⟨rfl, rfl⟩) hh (by simp) (by show 64 < 0 + _; omega)
  refine ⟨p, ?_⟩
  have R2 : Runs L .or {} (.bad 8 p) := R
  unfold parseP
  rw [R2.whole]; rfl
end Go.Proofs.YtpbadglfegcdjaaGreatDoor
/- A description's text is read to its tokens, and these are parsed to it: plain mathematics. -/
namespace Go.Proofs.YtpbadglfegcdjaaGreatDoor
open Go
set_option linter.unusedVariables false
set_option linter.unusedSimpArgs false

def tkOfT (t : Tok) : Tk := { kind := (t.kind : Int), at_ := (t.at_ : Int), lo := (t.lo : Int), hi := (t.hi : Int), cls := t.cls, text := t.text }
def bndT (lo hi : Int) : List UInt8 := repT lo.toNat hi.toNat
/-- A row of pieces is read to these tokens. -/
def ReadsT (ss : List (List UInt8)) (ks : List Tk) : Prop := ∃ ts, ReadsA ss ts ∧ ts.map tkOfT = ks
theorem ReadsT.append {a b : List (List UInt8)} {x y : List Tk} (h : ReadsT a x) (k : ReadsT b y) : ReadsT (a ++ b) (x ++ y) := by
  obtain ⟨t, h1, rfl⟩ := h
  obtain ⟨u, h2, rfl⟩ := k
  exact ⟨t ++ u, h1.append h2, List.map_append⟩
theorem ReadsT.one {s : List UInt8} {t : Tok} {k : Tk} (h : ReadsP s t) (e : tkOfT t = k) : ReadsT [s] [k] := ⟨[t], .cons h .nil, by rw [← e]; rfl⟩
theorem ReadsT.cons {s : List UInt8} {t : Tok} {k : Tk} {ss : List (List UInt8)} {ks : List Tk} (h : ReadsP s t) (e : tkOfT t = k) (r : ReadsT ss ks) : ReadsT (s :: ss) (k :: ks) := (ReadsT.one h e).append r
theorem ReadsT.brk {ss : List (List UInt8)} {ks : List Tk} (r : ReadsT ss ks) : ReadsT ([40] :: (ss ++ [[41]])) (brT ks) := ReadsT.cons reads_open rfl (r.append (ReadsT.one reads_shut rfl))
theorem textOk_parts {t : List UInt8} (h : textOk t = true) : t ≠ [] ∧ utf8L t = true ∧ (34 : UInt8) ∉ t := by
  unfold textOk at h
  simp only [Bool.and_eq_true, decide_eq_true_eq] at h
  exact ⟨h.1.1, h.1.2, h.2⟩
theorem reads_node (l : List Nd) (hok : ∀ j, j < l.length → okN l j (atN l j)) : ∀ (i : Nat), i < l.length → ∀ f : Nat, i < f → ∀ lev, ReadsT (sgsF clsT bndT l f (i : Int) lev) (tkF l f (i : Int) lev) := by
  intro i
  induction i using Nat.strongRecOn with
  | ind i ih =>
    intro hi f hf lev
    obtain ⟨f, rfl⟩ : ∃ f', f = f' + 1 := ⟨f - 1, by omega⟩
    rw [sgsF_succ, tkF_succ, Int.toNat_natCast]
    have key : ∀ (j lv : Int), 0 ≤ j → j < (i : Int) → ReadsT (sgsF clsT bndT l f j lv) (tkF l f j lv) := fun j lv h0 h1 => by
      obtain ⟨q, rfl⟩ := Int.eq_ofNat_of_zero_le h0
      exact ih q (by omega) (by omega) f (by omega) lv
    have hn := (hok i hi).2
    have nilr : ∀ (a : List (List UInt8)) (x : List Tk), ReadsT a x → ReadsT (a ++ []) x := fun a x h => by rw [List.append_nil]; exact h
    have hp : ReadsT (outP (sgsF clsT bndT l f) (pcsN clsT bndT (atN l i))) (tkP (tkF l f) (atN l i)) := by
      generalize atN l i = n at hn ⊢
      unfold pcsN tkP
      rcases hn with h | h | h | h | h | h
      · rw [if_pos h, if_pos h]
        exact ReadsT.cons reads_open rfl (ReadsT.one reads_shut rfl)
      · simp only [h]
        exact ReadsT.one (reads_cls _) rfl
      · have ht := textOk_parts h.2
        simp only [h.1]
        exact ReadsT.one (reads_text _ ht.1 ht.2.1 ht.2.2) rfl
      · obtain ⟨hk, h0, h1⟩ := h
        have K := fun lv => key n.a lv h0 (by omega)
        rcases hk with hk | hk | hk
        · simp only [hk]
          exact (K 2).append (ReadsT.one reads_star rfl)
        · simp only [hk]
          show ReadsT ([98] :: outP _ (Go.Proofs.YtpbadglfegcdjaaGreatDoor.brk [.nd n.a 0])) _
          rw [outP_brk]
          exact ReadsT.cons reads_b rfl ((nilr _ _ (K 0)).brk)
        · simp only [hk]
          show ReadsT ([119] :: outP _ (Go.Proofs.YtpbadglfegcdjaaGreatDoor.brk [.nd n.a 0])) _
          rw [outP_brk]
          exact ReadsT.cons reads_w rfl ((nilr _ _ (K 0)).brk)
      · obtain ⟨hk, ⟨h0, h1⟩, hl0, hlh, hh⟩ := h
        have K := fun lv => key n.a lv h0 (by omega)
        simp only [hk]
        refine (K 2).append (ReadsT.one (reads_rep n.lo.toNat n.hi.toNat (by omega) (by omega)) ?_)
        show ({ kind := 7, at_ := 0, lo := ((n.lo.toNat : Nat) : Int), hi := ((n.hi.toNat : Nat) : Int), cls := 0#256, text := [] } : Tk) = _
        rw [show ((n.lo.toNat : Nat) : Int) = n.lo by omega, show ((n.hi.toNat : Nat) : Int) = n.hi by omega]
      · obtain ⟨hk, ⟨h0, h1⟩, h2, h3⟩ := h
        have hle := firstP_le l n.b.toNat
        have KA := fun lv => key n.a lv h2 (by omega)
        have KB := fun lv => key n.b lv h0 (by omega)
        rcases hk with hk | hk
        · simp only [hk]
          exact (KA 1).append (nilr _ _ (KB 2))
        · simp only [hk]
          exact (KA 0).append (ReadsT.cons reads_or rfl (nilr _ _ (KB 1)))
    unfold fullN
    split
    · rw [outP_brk]; exact hp.brk
    · exact hp
/-- The tokens as they were placed, and the end behind them. -/
theorem place_like : ∀ (ss : List (List UInt8)) (ts : List Tok), ReadsA ss ts → ∀ p, (∀ j, j < ts.length → LikeT (tkAt (ts.map tkOfT) j) (tkAt ((placeT p ss ts).map tkOfT) j)) ∧ (tkAt ((placeT p ss ts).map tkOfT) ts.length).kind = 10 := by
  intro ss ts h
  induction h with
  | nil => intro p; exact ⟨fun j hj => absurd hj (Nat.not_lt_zero _), rfl⟩
  | @cons s t ss ts h _ ih =>
    intro p
    have k := ih (p + s.length)
    refine ⟨fun j hj => ?_, k.2⟩
    cases j with
    | zero => exact ⟨rfl, rfl, rfl, rfl, rfl⟩
    | succ j => exact k.1 j (by simpa using hj)
/-- A description's text. -/
def textN (l : List Nd) : List UInt8 := (sgsF clsT bndT l l.length ((l.length : Int) - 1) 0).flatten
def deepN (l : List Nd) : Nat := dpF l l.length ((l.length : Int) - 1) 0
theorem text_read {l : List Nd} (hf : Form l) : ∃ toks, readL (textN l) 0 0 = .ok toks ∧ Here (toks.map tkOfT) 0 (tkF l l.length ((l.length : Int) - 1) 0) ∧ (tkAt (toks.map tkOfT) (tkF l l.length ((l.length : Int) - 1) 0).length).kind = 10 := by
  obtain ⟨hpos, hok, _⟩ := hf
  obtain ⟨i, hi⟩ : ∃ i, l.length = i + 1 := ⟨l.length - 1, by omega⟩
  have e : (l.length : Int) - 1 = (i : Int) := by omega
  obtain ⟨ts, hr, ht⟩ := reads_node l hok i (by omega) l.length (by omega) 0
  have k := place_like _ _ hr 0
  unfold textN
  rw [e, ← ht]
  refine ⟨_, hr.read 0, fun j hj => ?_, ?_⟩
  · rw [Nat.zero_add]; exact k.1 j (by simpa using hj)
  · rw [List.length_map]; exact k.2
/-- A text that isn't too deep is read and parsed to its description. -/
theorem text_back {l : List Nd} (hf : Form l) (h4 : l.length ≤ 4096) (hd : deepN l ≤ 64) : ∃ toks, readL (textN l) 0 0 = .ok toks ∧ ∃ k t, parseP (toks.map tkOfT) = .ok k t ∧ t.nodes = l := by
  obtain ⟨toks, hr, hh, he⟩ := text_read hf
  exact ⟨toks, hr, print_parse hf h4 hh he hd⟩
theorem text_deep {l : List Nd} (hf : Form l) (h4 : l.length ≤ 4096) (hd : 64 < deepN l) : ∃ toks p, readL (textN l) 0 0 = .ok toks ∧ parseP (toks.map tkOfT) = .bad 8 p := by
  obtain ⟨toks, hr, hh, he⟩ := text_read hf
  obtain ⟨p, hp⟩ := print_deep hf h4 hh hd
  exact ⟨toks, p, hr, hp⟩
/-- Descriptions of the same text are the same, where they are not too deep. -/
theorem text_same {l m : List Nd} (hf : Form l) (hg : Form m) (h4 : l.length ≤ 4096) (g4 : m.length ≤ 4096) (hd : deepN l ≤ 64) (h : textN l = textN m) : l = m := by
  obtain ⟨toks, hr, k, t, hp, ht⟩ := text_back hf h4 hd
  by_cases gd : deepN m ≤ 64
  · obtain ⟨toks2, hr2, k2, t2, hp2, ht2⟩ := text_back hg g4 gd
    rw [← h, hr] at hr2
    injection hr2 with e
    subst e
    rw [hp] at hp2
    injection hp2 with e1 e2
    rw [← ht, ← ht2, e2]
  · obtain ⟨toks2, p, hr2, hp2⟩ := text_deep hg g4 (by omega)
    rw [← h, hr] at hr2
    injection hr2 with e
    subst e
    rw [hp] at hp2
    cases hp2
end Go.Proofs.YtpbadglfegcdjaaGreatDoor
