/- The tokens of a text that is too deep: plain mathematics. -/
import Derived.Test.YtcgjmnhmhiddkaaGreatDoorM19
import Derived.Test.YtcgjmnhmhiddkaaGreatDoorM20
namespace Go.Proofs.YtcgjmnhmhiddkaaGreatDoor
open Go
set_option linter.unusedVariables false
set_option linter.unusedSimpArgs false

/-- Too deep, by the level at which it is read. -/
def BaP (L : List Tk) (lev : Int) (s : PS) (p : Int) : Prop :=
  if lev = 3 then Runs L .atom s (.bad 8 p)
  else if lev = 2 then Runs L .post s (.bad 8 p)
  else if lev = 1 then Runs L .row s (.bad 8 p)
  else Runs L .or s (.bad 8 p)
theorem BaP.down {L : List Tk} {s : PS} {p lv lev : Int} (h : BaP L lv s p) (h0 : lv = 0 ∨ lv = 1 ∨ lv = 2 ∨ lv = 3) (h1 : lev = 0 ∨ lev = 1 ∨ lev = 2 ∨ lev = 3) (hle : lev ≤ lv) : BaP L lev s p := by
  have f3 : BaP L 3 s p → BaP L 2 s p := fun h => Runs.postB h
  have f2 : BaP L 2 s p → BaP L 1 s p := fun h => Runs.rowB h
  have f1 : BaP L 1 s p → BaP L 0 s p := fun h => Runs.orB h
  rcases h0 with rfl | rfl | rfl | rfl <;> rcases h1 with rfl | rfl | rfl | rfl <;> first
    | exact h
    | (exfalso; omega)
    | exact f1 h
    | exact f2 h
    | exact f1 (f2 h)
    | exact f3 h
    | exact f2 (f3 h)
    | exact f1 (f2 (f3 h))
/-- Brackets that are too deep, or in which it is. -/
theorem brackB {L : List Tk} {s : PS} {ts : List Tk} (h : Here L s.read (brT ts)) (hb : begK (tkAt L (s.read + 1)).kind = true) (hg : s.opn.length < 64 → ∃ p, BaP L 0 (s.into L) p) : ∃ p, Runs L .group s (.bad 8 p) := by
  have e3 : (tkAt L s.read).kind = 3 := (Here.head h).1.1
  rcases Nat.lt_or_ge s.opn.length 64 with h1 | h1
  · obtain ⟨p, hp⟩ := hg h1
    refine ⟨p, Runs.groupB e3 h1 (Runs.inside ?_ hp)⟩
    intro e
    have : (s.into L).read = s.read + 1 := rfl
    rw [this] at e; rw [e] at hb; exact absurd hb (by decide)
  · exact ⟨_, Runs.groupDeep e3 h1⟩
theorem deep_back (l : List Nd) (hok : ∀ j, j < l.length → okN l j (atN l j)) (h4 : l.length ≤ 4096) (L : List Tk) : ∀ i, i < l.length →
    (∀ s, At l s (firstP l i) → Here L s.read (tkP (tkF l i) (atN l i)) → s.opn.length ≤ 64 → 64 < s.opn.length + dpP (dpF l i) (atN l i) → ∃ p, BaP L (levK (atN l i).kind) s p) ∧
    (∀ lev : Int, (lev = 0 ∨ lev = 1 ∨ lev = 2 ∨ lev = 3) → ∀ s, At l s (firstP l i) → Here L s.read (tkF l (i + 1) (i : Int) lev) → s.opn.length ≤ 64 → 64 < s.opn.length + dpF l (i + 1) (i : Int) lev → ∃ p, BaP L lev s p) := by
  intro i
  induction i using Nat.strongRecOn with
  | ind i ih =>
    intro hi
    have hn := hok i hi
    have hp := ok_parts hn
    have own : ∀ s, At l s (firstP l i) → Here L s.read (tkP (tkF l i) (atN l i)) → s.opn.length ≤ 64 → 64 < s.opn.length + dpP (dpF l i) (atN l i) → ∃ p, BaP L (levK (atN l i).kind) s p := by
      intro s ha hh hs hd
      obtain ⟨x, hx⟩ : ∃ x, atN l i = x := ⟨_, rfl⟩
      rw [hx] at hp hh hd ⊢
      rcases hp with ⟨hk, hf⟩ | ⟨q, hq, hxa, hf, hk⟩ | ⟨q, p, hq, hxb, hxa, hfq, hf, hpq, hk⟩
      · rcases hk with hk | hk | hk
        · have e : tkP (tkF l i) x = [{ kind := 3 }, { kind := 4 }] := by unfold tkP; rw [if_pos hk]
          have e2 : dpP (dpF l i) x = 1 := by unfold dpP; rw [if_pos hk]
          rw [e] at hh
          rw [e2] at hd
          have e3 : (tkAt L s.read).kind = 3 := (Here.head hh).1.1
          rw [hk]
          exact ⟨_, Runs.atomG e3 (Runs.groupDeep e3 (by omega))⟩
        · have e2 : dpP (dpF l i) x = 0 := by unfold dpP; simp [hk]
          omega
        · have e2 : dpP (dpF l i) x = 0 := by unfold dpP; simp [hk]
          omega
      · rw [hf] at ha
        have IH := (ih q (by omega) (by omega)).2
        subst hq
        rcases hk with hk | hk | hk
        · have e : tkP (tkF l (q + 1)) x = tkF l (q + 1) (q : Int) 2 ++ [{ kind := 6 }] := by unfold tkP; simp [hk, hxa]
          have e2 : dpP (dpF l (q + 1)) x = dpF l (q + 1) (q : Int) 2 := by unfold dpP; simp [hk, hxa]
          rw [e] at hh
          rw [e2] at hd
          rw [hk]
          exact IH 2 (by omega) s ha hh.left hs hd
        · have e : tkP (tkF l (q + 1)) x = tkF l (q + 1) (q : Int) 2 ++ [{ kind := 7, lo := x.lo, hi := x.hi }] := by unfold tkP; simp [hk, hxa]
          have e2 : dpP (dpF l (q + 1)) x = dpF l (q + 1) (q : Int) 2 := by unfold dpP; simp [hk, hxa]
          rw [e] at hh
          rw [e2] at hd
          rw [hk]
          exact IH 2 (by omega) s ha hh.left hs hd
        · have e : tkP (tkF l (q + 1)) x = { kind := x.kind } :: brT (tkF l (q + 1) (q : Int) 0) := by unfold tkP brT; rcases hk with hk | hk <;> simp [hk, hxa]
          have e2 : dpP (dpF l (q + 1)) x = dpF l (q + 1) (q : Int) 0 + 1 := by unfold dpP; rcases hk with hk | hk <;> simp [hk, hxa]
          rw [e] at hh
          rw [e2] at hd
          obtain ⟨qk, hbr⟩ := Here.head hh
          have hin : Here L (s.read + 1 + 1) (tkF l (q + 1) (q : Int) 0) := (Here.head hbr).2.left
          have hbeg := (tk_begs l hok q (by omega) (q + 1) (by omega)).2 0
          have hb1 : begK (tkAt L (s.next.read + 1)).kind = true := by
            have := (hin 0 hbeg.1).1
            rw [Nat.add_zero] at this
            show begK (tkAt L (s.read + 1 + 1)).kind = true
            rw [this]; exact hbeg.2
          obtain ⟨p, R⟩ := brackB (s := s.next) hbr hb1 (fun h64 => IH 0 (by omega) (s.next.into L) ha.next.into hin (by
            show (s.opn ++ [_]).length ≤ 64
            have : s.opn.length < 64 := h64
            rw [List.length_append]; simp; omega) (by
            show 64 < (s.opn ++ [_]).length + _
            rw [List.length_append]; simp; omega))
          have hl3 : levK x.kind = 3 := by unfold levK; rcases hk with hk | hk <;> simp [hk]
          rw [hl3]
          exact ⟨p, Runs.frameB qk.1 hk R⟩
      · rw [hf] at ha
        have IHq := (ih q (by omega) (by omega)).2
        have IHp := (ih p (by omega) (by omega)).2
        have HB := (here_back l hok h4 L p (by omega)).2
        subst hq
        have mp := fun lev => tkF_more l hok p (by omega) (q + 1) (p + 1) (by omega) (by omega) lev
        rcases hk with hk | hk
        · have e : tkP (tkF l (q + 1)) x = tkF l (p + 1) (p : Int) 1 ++ tkF l (q + 1) (q : Int) 2 := by unfold tkP; simp [hk, hxa, hxb, (mp 1).1]
          have e2 : dpP (dpF l (q + 1)) x = max (dpF l (p + 1) (p : Int) 1) (dpF l (q + 1) (q : Int) 2) := by unfold dpP; simp [hk, hxa, hxb, (mp 1).2]
          rw [e] at hh
          rw [e2] at hd
          rw [hk]
          by_cases hA : 64 < s.opn.length + dpF l (p + 1) (p : Int) 1
          · exact IHp 1 (by omega) s ha hh.left hs hA
          · obtain ⟨t1, r1, o1, a1, g1⟩ := HB 1 (by omega) s ha hh.left (by omega)
            rw [← hfq] at a1
            obtain ⟨w, R⟩ := IHq 2 (by omega) t1 a1 (by rw [r1]; exact hh.right) (by rw [o1]; exact hs) (by rw [o1]; omega)
            have hbeg := (tk_begs l hok q (by omega) (q + 1) (by omega)).2 2
            have hb1 : begK (tkAt L t1.read).kind = true := by
              have := (hh.right 0 hbeg.1).1
              rw [Nat.add_zero, ← r1] at this
              rw [this]; exact hbeg.2
            exact ⟨w, g1 (fun e => by rw [e] at hb1; exact absurd hb1 (by decide)) (fun e => by rw [e] at hb1; exact absurd hb1 (by decide)) _ (Runs.rowLB hb1 R)⟩
        · have e : tkP (tkF l (q + 1)) x = tkF l (p + 1) (p : Int) 0 ++ ({ kind := 5 } :: tkF l (q + 1) (q : Int) 1) := by unfold tkP; simp [hk, hxa, hxb, (mp 0).1]
          have e2 : dpP (dpF l (q + 1)) x = max (dpF l (p + 1) (p : Int) 0) (dpF l (q + 1) (q : Int) 1) := by unfold dpP; simp [hk, hxa, hxb, (mp 0).2]
          rw [e] at hh
          rw [e2] at hd
          rw [hk]
          by_cases hA : 64 < s.opn.length + dpF l (p + 1) (p : Int) 0
          · exact IHp 0 (by omega) s ha hh.left hs hA
          · obtain ⟨t1, r1, o1, a1, g1⟩ := HB 0 (by omega) s ha hh.left (by omega)
            obtain ⟨q5, hB⟩ := Here.head hh.right
            rw [← r1] at q5 hB
            have e5 : (tkAt L t1.read).kind = 5 := q5.1
            rw [← hfq] at a1
            obtain ⟨w, R⟩ := IHq 1 (by omega) t1.next a1.next hB (by show t1.opn.length ≤ 64; rw [o1]; exact hs) (by show 64 < t1.opn.length + _; rw [o1]; omega)
            exact ⟨w, g1 (by rw [e5]; rfl) (by rw [e5]; decide) (by rw [e5]; decide) _ (Runs.orLB e5 R)⟩
    refine ⟨own, fun lev hlev s ha hh hs hd => ?_⟩
    rw [tkF_succ, Int.toNat_natCast] at hh
    rw [dpF_succ, Int.toNat_natCast] at hd
    split at hh
    · rename_i hlt
      rw [if_pos hlt] at hd
      have hin : Here L (s.read + 1) (tkP (tkF l i) (atN l i)) := (Here.head hh).2.left
      have hbeg := (tk_begs l hok i hi (i + 1) (by omega)).1
      rw [Nat.add_sub_cancel] at hbeg
      have hb1 : begK (tkAt L (s.read + 1)).kind = true := by
        have := (hin 0 hbeg.1).1
        rw [Nat.add_zero] at this
        rw [this]; exact hbeg.2
      obtain ⟨w, R⟩ := brackB (s := s) hh hb1 (fun h64 => by
        obtain ⟨w, R⟩ := own (s.into L) ha.into hin (by
          show (s.opn ++ [_]).length ≤ 64
          rw [List.length_append]; simp; omega) (by
          show 64 < (s.opn ++ [_]).length + _
          rw [List.length_append]; simp; omega)
        exact ⟨w, R.down (lev_four _) (.inl rfl) (by rcases lev_four (atN l i).kind with h | h | h | h <;> omega)⟩)
      exact ⟨w, BaP.down (lv := 3) (show BaP L 3 s w from Runs.atomG (Here.head hh).1.1 R) (.inr (.inr (.inr rfl))) hlev (by omega)⟩
    · rename_i hle
      rw [if_neg hle] at hd
      obtain ⟨w, R⟩ := own s ha hh hs hd
      exact ⟨w, R.down (lev_four _) hlev (by omega)⟩
/-- The tokens of a description's text that is too deep are told so. -/
theorem print_deep {l : List Nd} (hf : Form l) (h4 : l.length ≤ 4096) {L : List Tk} (hh : Here L 0 (tkF l l.length ((l.length : Int) - 1) 0)) (hd : 64 < dpF l l.length ((l.length : Int) - 1) 0) : ∃ p, parseP L = .bad 8 p := by
  obtain ⟨hpos, hok, hfirst⟩ := hf
  obtain ⟨i, hi⟩ : ∃ i, l.length = i + 1 := ⟨l.length - 1, by omega⟩
  have ei : (l.length : Int) - 1 = (i : Int) := by omega
  rw [ei, hi] at hh hd
  rw [hi, Nat.add_sub_cancel] at hfirst
  obtain ⟨p, R⟩ := (deep_back l hok h4 L i (by omega)).2 0 (.inl rfl) {} (by rw [hfirst]; exact ⟨rfl, rfl⟩) hh (by simp) (by show 64 < 0 + _; omega)
  refine ⟨p, ?_⟩
  have R2 : Runs L .or {} (.bad 8 p) := R
  unfold parseP
  rw [R2.whole]; rfl
end Go.Proofs.YtcgjmnhmhiddkaaGreatDoor
/- A description's text is read to its tokens, and these are parsed to it: plain mathematics. -/
namespace Go.Proofs.YtcgjmnhmhiddkaaGreatDoor
open Go
set_option linter.unusedVariables false
set_option linter.unusedSimpArgs false

def tkOfT (t : Tok) : Tk := { kind := (t.kind : Int), at_ := (t.at_ : Int), lo := (t.lo : Int), hi := (t.hi : Int), cls := t.cls, text := t.text }
def bndT (lo hi : Int) : List UInt8 := repT lo.toNat hi.toNat
/-- A row of pieces is read to these tokens. -/
def ReadsT (ss : List (List UInt8)) (ks : List Tk) : Prop := ∃ ts, ReadsA ss ts ∧ ts.map tkOfT = ks
theorem ReadsT.append {a b : List (List UInt8)} {x y : List Tk} (h : ReadsT a x) (k : ReadsT b y) : ReadsT (a ++ b) (x ++ y) := by
  obtain ⟨t, h1, rfl⟩ := h
  obtain ⟨u, h2, rfl⟩ := k
  exact ⟨t ++ u, h1.append h2, List.map_append⟩
theorem ReadsT.one {s : List UInt8} {t : Tok} {k : Tk} (h : ReadsP s t) (e : tkOfT t = k) : ReadsT [s] [k] := ⟨[t], .cons h .nil, by rw [← e]; rfl⟩
theorem ReadsT.cons {s : List UInt8} {t : Tok} {k : Tk} {ss : List (List UInt8)} {ks : List Tk} (h : ReadsP s t) (e : tkOfT t = k) (r : ReadsT ss ks) : ReadsT (s :: ss) (k :: ks) := (ReadsT.one h e).append r
theorem ReadsT.brk {ss : List (List UInt8)} {ks : List Tk} (r : ReadsT ss ks) : ReadsT ([40] :: (ss ++ [[41]])) (brT ks) := ReadsT.cons reads_open rfl (r.append (ReadsT.one reads_shut rfl))
theorem textOk_parts {t : List UInt8} (h : textOk t = true) : t ≠ [] ∧ utf8L t = true ∧ (34 : UInt8) ∉ t := by
  unfold textOk at h
  simp only [Bool.and_eq_true, decide_eq_true_eq] at h
  exact ⟨h.1.1, h.1.2, h.2⟩
theorem reads_node (l : List Nd) (hok : ∀ j, j < l.length → okN l j (atN l j)) : ∀ (i : Nat), i < l.length → ∀ f : Nat, i < f → ∀ lev, ReadsT (sgsF clsT bndT l f (i : Int) lev) (tkF l f (i : Int) lev) := by
  intro i
  induction i using Nat.strongRecOn with
  | ind i ih =>
    intro hi f hf lev
    obtain ⟨f, rfl⟩ : ∃ f', f = f' + 1 := ⟨f - 1, by omega⟩
    rw [sgsF_succ, tkF_succ, Int.toNat_natCast]
    have key : ∀ (j lv : Int), 0 ≤ j → j < (i : Int) → ReadsT (sgsF clsT bndT l f j lv) (tkF l f j lv) := fun j lv h0 h1 => by
      obtain ⟨q, rfl⟩ := Int.eq_ofNat_of_zero_le h0
      exact ih q (by omega) (by omega) f (by omega) lv
    have hn := (hok i hi).2
    have nilr : ∀ (a : List (List UInt8)) (x : List Tk), ReadsT a x → ReadsT (a ++ []) x := fun a x h => by rw [List.append_nil]; exact h
    have hp : ReadsT (outP (sgsF clsT bndT l f) (pcsN clsT bndT (atN l i))) (tkP (tkF l f) (atN l i)) := by
      generalize atN l i = n at hn ⊢
      unfold pcsN tkP
      rcases hn with h | h | h | h | h | h
      · rw [if_pos h, if_pos h]
        exact ReadsT.cons reads_open rfl (ReadsT.one reads_shut rfl)
      · simp only [h]
        exact ReadsT.one (reads_cls _) rfl
      · have ht := textOk_parts h.2
        simp only [h.1]
        exact ReadsT.one (reads_text _ ht.1 ht.2.1 ht.2.2) rfl
      · obtain ⟨hk, h0, h1⟩ := h
        have K := fun lv => key n.a lv h0 (by omega)
        rcases hk with hk | hk | hk
        · simp only [hk]
          exact (K 2).append (ReadsT.one reads_star rfl)
        · simp only [hk]
          show ReadsT ([98] :: outP _ (Go.Proofs.YtcgjmnhmhiddkaaGreatDoor.brk [.nd n.a 0])) _
          rw [outP_brk]
          exact ReadsT.cons reads_b rfl ((nilr _ _ (K 0)).brk)
        · simp only [hk]
          show ReadsT ([119] :: outP _ (Go.Proofs.YtcgjmnhmhiddkaaGreatDoor.brk [.nd n.a 0])) _
          rw [outP_brk]
          exact ReadsT.cons reads_w rfl ((nilr _ _ (K 0)).brk)
      · obtain ⟨hk, ⟨h0, h1⟩, hl0, hlh, hh⟩ := h
        have K := fun lv => key n.a lv h0 (by omega)
        simp only [hk]
        refine (K 2).append (ReadsT.one (reads_rep n.lo.toNat n.hi.toNat (by omega) (by omega)) ?_)
        show ({ kind := 7, at_ := 0, lo := ((n.lo.toNat : Nat) : Int), hi := ((n.hi.toNat : Nat) : Int), cls := 0#256, text := [] } : Tk) = _
        rw [show ((n.lo.toNat : Nat) : Int) = n.lo by omega, show ((n.hi.toNat : Nat) : Int) = n.hi by omega]
      · obtain ⟨hk, ⟨h0, h1⟩, h2, h3⟩ := h
        have hle := firstP_le l n.b.toNat
        have KA := fun lv => key n.a lv h2 (by omega)
        have KB := fun lv => key n.b lv h0 (by omega)
        rcases hk with hk | hk
        · simp only [hk]
          exact (KA 1).append (nilr _ _ (KB 2))
        · simp only [hk]
          exact (KA 0).append (ReadsT.cons reads_or rfl (nilr _ _ (KB 1)))
    unfold fullN
    split
    · rw [outP_brk]; exact hp.brk
    · exact hp
/-- The tokens as they were placed, and the end behind them. -/
theorem place_like : ∀ (ss : List (List UInt8)) (ts : List Tok), ReadsA ss ts → ∀ p, (∀ j, j < ts.length → LikeT (tkAt (ts.map tkOfT) j) (tkAt ((placeT p ss ts).map tkOfT) j)) ∧ (tkAt ((placeT p ss ts).map tkOfT) ts.length).kind = 10 := by
  intro ss ts h
  induction h with
  | nil => intro p; exact ⟨fun j hj => absurd hj (Nat.not_lt_zero _), rfl⟩
  | @cons s t ss ts h _ ih =>
    intro p
    have k := ih (p + s.length)
    refine ⟨fun j hj => ?_, k.2⟩
    cases j with
    | zero => exact ⟨rfl, rfl, rfl, rfl, rfl⟩
    | succ j => exact k.1 j (by simpa using hj)
/-- A description's text. -/
def textN (l : List Nd) : List UInt8 := (sgsF clsT bndT l l.length ((l.length : Int) - 1) 0).flatten
def deepN (l : List Nd) : Nat := dpF l l.length ((l.length : Int) - 1) 0
theorem text_read {l : List Nd} (hf : Form l) : ∃ toks, readL (textN l) 0 0 = .ok toks ∧ Here (toks.map tkOfT) 0 (tkF l l.length ((l.length : Int) - 1) 0) ∧ (tkAt (toks.map tkOfT) (tkF l l.length ((l.length : Int) - 1) 0).length).kind = 10 := by
  obtain ⟨hpos, hok, _⟩ := hf
  obtain ⟨i, hi⟩ : ∃ i, l.length = i + 1 := ⟨l.length - 1, by omega⟩
  have e : (l.length : Int) - 1 = (i : Int) := by omega
  obtain ⟨ts, hr, ht⟩ := reads_node l hok i (by omega) l.length (by omega) 0
  have k := place_like _ _ hr 0
  unfold textN
  rw [e, ← ht]
  refine ⟨_, hr.read 0, fun j hj => ?_, ?_⟩
  · rw [Nat.zero_add]; exact k.1 j (by simpa using hj)
  · rw [List.length_map]; exact k.2
/-- A text that isn't too deep is read and parsed to its description. -/
theorem text_back {l : List Nd} (hf : Form l) (h4 : l.length ≤ 4096) (hd : deepN l ≤ 64) : ∃ toks, readL (textN l) 0 0 = .ok toks ∧ ∃ k t, parseP (toks.map tkOfT) = .ok k t ∧ t.nodes = l := by
  obtain ⟨toks, hr, hh, he⟩ := text_read hf
  exact ⟨toks, hr, print_parse hf h4 hh he hd⟩
theorem text_deep {l : List Nd} (hf : Form l) (h4 : l.length ≤ 4096) (hd : 64 < deepN l) : ∃ toks p, readL (textN l) 0 0 = .ok toks ∧ parseP (toks.map tkOfT) = .bad 8 p := by
  obtain ⟨toks, hr, hh, he⟩ := text_read hf
  obtain ⟨p, hp⟩ := print_deep hf h4 hh hd
  exact ⟨toks, p, hr, hp⟩
end Go.Proofs.YtcgjmnhmhiddkaaGreatDoor
/- How deep a description's text is, counted in it: plain mathematics. -/
namespace Go.Proofs.YtcgjmnhmhiddkaaGreatDoor
open Go
set_option linter.unusedVariables false
set_option linter.unusedSimpArgs false

theorem clsT_no (c : BitVec 256) : NoBr (clsT c) := by
  unfold clsT NoBr
  split
  · exact ⟨by decide, by decide⟩
  · exact ⟨by simp, by simp⟩
theorem bndT_no (a b : Int) : NoBr (bndT a b) := by
  unfold bndT repT NoBr
  exact ⟨by simp, by simp⟩
/-- Counted over the pieces. -/
theorem deep_pieces (l : List Nd) : (sgsF clsT bndT l l.length ((l.length : Int) - 1) 0).foldl dstep (0, 0) = (0, (deepN l : Int)) := by
  rw [deep_told clsT_no bndT_no l l.length _ 0 0 0 (by omega)]
  unfold deepN
  congr 1; omega
/-- The program's machine tells the text. -/
theorem told_text {l : List Nd} (hf : Form l) : ∃ k t, ∀ n r, eachR clsT bndT l (n + k) (fun _ => false) (.nd ((l.length : Int) - 1) 0 :: r) = (eachR clsT bndT l n t r).map (sgsF clsT bndT l l.length ((l.length : Int) - 1) 0 ++ ·) := by
  obtain ⟨hpos, hok, _⟩ := hf
  obtain ⟨i, hi⟩ : ∃ i, l.length = i + 1 := ⟨l.length - 1, by omega⟩
  have e : (l.length : Int) - 1 = (i : Int) := by omega
  rw [e, hi]
  obtain ⟨k, hk⟩ := told_at (cT := clsT) (bT := bndT) l hok i (by omega) (fun _ => false) (fun _ _ _ => rfl) 0
  exact ⟨k, _, hk⟩
end Go.Proofs.YtcgjmnhmhiddkaaGreatDoor
/- A class' text: read as one token, and how long it is: plain mathematics. -/
namespace Go.Proofs.YtcgjmnhmhiddkaaGreatDoor
open Go
set_option linter.unusedVariables false
set_option linter.unusedSimpArgs false

/-- How many bytes below one a class has. -/
def cntU (c : BitVec 256) : Nat → Nat
  | 0 => 0
  | p + 1 => cntU c p + (if c.getLsbD p = true then 1 else 0)
theorem cntU_row (c : BitVec 256) (p : Nat) : ∀ k : Nat, (∀ j, p ≤ j → j < p + k → c.getLsbD j = true) → cntU c (p + k) = cntU c p + k
  | 0, _ => rfl
  | k + 1, h => by
    show cntU c (p + k) + (if c.getLsbD (p + k) = true then 1 else 0) = _
    rw [cntU_row c p k (fun j h1 h2 => h j h1 (by omega)), if_pos (h (p + k) (by omega) (by omega))]; omega
theorem rowT_len (a b : Nat) : (rowT a b).length = if a = b then 2 else 5 := by
  unfold rowT hexT; split <;> simp
def sumL : List (List UInt8) → Nat
  | [] => 0
  | x :: l => (x.length + 1) + sumL l
theorem joinC_len : ∀ (l : List (List UInt8)), l ≠ [] → (joinC l).length + 1 = sumL l
  | [], h => absurd rfl h
  | [x], _ => by simp [joinC, sumL]
  | x :: y :: l, _ => by
    have k := joinC_len (y :: l) (by simp)
    show (x ++ 44 :: joinC (y :: l)).length + 1 = (x.length + 1) + sumL (y :: l)
    rw [← k]; simp; omega
theorem sum_rows (c : BitVec 256) : ∀ (f p : Nat), p ≤ 256 → 256 ≤ p + f → sumL ((rowsF c f p).map fun r => rowT r.1 r.2) + 3 * cntU c p ≤ 3 * cntU c 256
  | 0, p, hp, hf => by
    have e : p = 256 := by omega
    subst e; show 0 + _ ≤ _; omega
  | f + 1, p, hp, hf => by
    unfold rowsF
    split
    · have e : p = 256 := by omega
      subst e; show 0 + _ ≤ _; omega
    split
    · rename_i h1 h2
      have k := sum_rows c f (p + 1) (by omega) (by omega)
      have e : cntU c (p + 1) = cntU c p := by
        show cntU c p + (if c.getLsbD p = true then 1 else 0) = _
        rw [h2]; simp
      rw [e] at k; exact k
    · rename_i h1 h2
      have k := lastF_ok c 256 p (by omega) (by omega) (by simpa using h2)
      generalize lastF c 256 p = q at k
      have r := sum_rows c f (q + 1) (by omega) (by omega)
      have e : cntU c (q + 1) = cntU c p + (q + 1 - p) := by
        have := cntU_row c p (q + 1 - p) (fun j h1 h2 => k.2.2.1 j h1 (by omega))
        rwa [show p + (q + 1 - p) = q + 1 by omega] at this
      rw [e] at r
      show ((rowT p q).length + 1) + sumL ((rowsF c f (q + 1)).map fun r => rowT r.1 r.2) + _ ≤ _
      have hl := rowT_len p q
      by_cases hpq : p = q
      · rw [if_pos hpq] at hl; omega
      · rw [if_neg hpq] at hl; omega
/-- It isn't longer than the text byte by byte. -/
theorem clsT_len (c : BitVec 256) : (clsT c).length ≤ max (1 + 3 * cntU c 256) 2 := by
  have s := sum_rows c 256 0 (by omega) (by omega)
  have hz : cntU c 0 = 0 := rfl
  rw [hz] at s
  generalize cntU c 256 = m at s
  unfold clsT
  split
  · show 1 ≤ _; omega
  · have hs : sumL (rowsT c) ≤ 3 * m := by unfold rowsT; omega
    by_cases h : rowsT c = []
    · rw [h]; show 2 ≤ _; omega
    · have := joinC_len _ h
      simp only [List.length_cons, List.length_append, List.length_nil]
      omega
end Go.Proofs.YtcgjmnhmhiddkaaGreatDoor
