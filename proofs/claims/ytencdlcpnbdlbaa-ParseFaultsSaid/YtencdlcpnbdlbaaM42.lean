/- Descriptions out of tokens: what is in brackets, behind a frame, and an or and a row of two. -/
import Derived.Test.YtencdlcpnbdlbaaM14
import Derived.Test.YtencdlcpnbdlbaaM13
namespace Go.Proofs.Ytencdlcpnbdlbaa
open Go
set_option linter.unusedVariables false
set_option linter.unusedSimpArgs false

/-- What is parsed, but for its TkEnd. -/
structure PDone (l : List Tk) (k : Int) (u : PS) : Prop where
  run : ∃ n, run l n .or {} = .ok k u
  read : u.read = l.length - 1
  opn : u.opn = []
  k : k = (u.count : Int) - 1
  pos : 0 < u.count
  fits : u.count ≤ 4096
  len : u.nodes.length = u.count
  some : 0 < u.read
theorem TEnds.is_last {l : List Tk} (h : TEnds l) {p : Nat} (hp : p < l.length) (hk : (tkAt l p).kind = 10) : p = l.length - 1 := by
  rcases Nat.lt_or_ge p (l.length - 1) with hh | hh
  · exact absurd hk (h.only p hh)
  · omega
theorem parse_done {l : List Tk} (hl : TEnds l) (ht : TkOk l) {k : Int} {t : PS} (h : parseP l = .ok k t) : ∃ u, PDone l k u ∧ t = u.next := by
  obtain ⟨a, u, h1, h2⟩ := bind_ok h
  split at h2
  · rename_i hk
    split at h2
    · cases h2
    · cases h2
      have r := run_form ht _ .or {} 0 k u h1 (by omega) ⟨rfl, fun i hi => by simp at hi⟩ rfl
      have q := run_read _ _ _ _ _ h1
      have rr := run_range hl _ _ _ _ _ h1 hl.pos
      simp only [eats] at q
      exact ⟨u, ⟨⟨_, h1⟩, hl.is_last rr hk, q.2.1, r.k, r.pos, by omega, r.lay.len, by omega⟩, rfl⟩
  · exact absurd h2 fault_not_ok
theorem runs_parse {l : List Tk} {k : Int} {u : PS} (h : Runs l .or {} (.ok k u)) (hk : (tkAt l u.read).kind = 10) (hc : u.count ≤ 4096) : parseP l = .ok k u.next := by
  unfold parseP
  rw [h.whole]
  simp only [PR.bind]
  rw [if_pos hk, if_neg (by omega)]
theorem run_beg {l : List Tk} : ∀ (n : Nat) (m : Md) (s : PS) (k : Int) (t : PS), run l n m s = .ok k t → (m = .or ∨ m = .row ∨ m = .post ∨ m = .atom) → begK (tkAt l s.read).kind = true
  | 0, _, _, _, _, h, _ => by cases h
  | n + 1, m, s, k, t, h, hm => by
    rcases hm with rfl | rfl | rfl | rfl
    · obtain ⟨a, u, h1, h2⟩ := bind_ok h
      exact run_beg n _ _ _ _ h1 (.inr (.inl rfl))
    · obtain ⟨a, u, h1, h2⟩ := bind_ok h
      exact run_beg n _ _ _ _ h1 (.inr (.inr (.inl rfl)))
    · obtain ⟨a, u, h1, h2⟩ := bind_ok h
      exact run_beg n _ _ _ _ h1 (.inr (.inr (.inr rfl)))
    · simp only [run] at h
      split at h
      · rename_i hk; rw [hk]; rfl
      · split at h
        · rename_i hk; rw [hk]; rfl
        · split at h
          · rename_i hk; rw [hk]; rfl
          · split at h
            · rename_i hk; rw [hk]; rfl
            · split at h
              · rename_i hk; rw [hk]; rfl
              · exact absurd h fault_not_ok
/-- What is parsed, in brackets. -/
theorem group_of {l l2 : List Tk} {k : Int} {u s2 : PS} (hd : PDone l k u) (h64 : ∀ i, cntO l (s2.opn.length + 1) i ≤ 64) (h3 : (tkAt l2 s2.read).kind = 3) (hl : ∀ i, i < l.length - 1 → LikeT (tkAt l i) (tkAt l2 (i + (s2.read + 1)))) (h4 : (tkAt l2 (l.length - 1 + (s2.read + 1))).kind = 4) (hf : u.count + s2.count ≤ 4096) :
    ∃ t2, Runs l2 .group s2 (.ok (k + s2.count) t2) ∧ t2.read = s2.read + l.length + 1 ∧ t2.opn = s2.opn ∧ t2.count = u.count + s2.count ∧ t2.nodes = s2.nodes ++ u.nodes.map (mvN (s2.count : Int)) := by
  obtain ⟨n, hn⟩ := hd.run
  have hb := run_beg n _ _ _ _ hn (.inl rfl)
  have hr := hd.read
  have hp := hd.some
  have S : St s2.count (s2.read + 1) (s2.opn.length + 1) {} (s2.into l2) := ⟨by simp [PS.into, PS.next], by simp [PS.into, PS.next], by simp [PS.into]⟩
  obtain ⟨t2, A, G⟩ := run_goes (l2 := l2) (.inr h64) n _ _ _ _ hn _ S (fun i _ hi => hl i (by omega)) (by unfold CntAt; simp [cntO]) hf
  have e2 : (tkAt l2 t2.read).kind = 4 := by rw [A.read, hr]; exact h4
  have e0 := hl 0 (by omega)
  have q := h64 0
  simp only [cntO] at q
  simp only [Goes] at G
  have R := G (by rw [e2]; rfl) (by rw [e2]; decide) (by rw [e2]; decide) _ (Runs.orLStop (by rw [e2]; decide))
  have hk0 : (tkAt l2 (s2.into l2).read).kind ≠ 4 := by
    have : (s2.into l2).read = 0 + (s2.read + 1) := by simp [PS.into, PS.next]
    rw [this, e0.1]; intro hh; rw [show ({} : PS).read = 0 from rfl, hh] at hb; exact absurd hb (by decide)
  refine ⟨_, Runs.group h3 (by omega) (Runs.inside hk0 R) e2, ?_, ?_, A.count, ?_⟩
  · simp only [PS.next]; rw [A.read, hr]; omega
  · simp only; rw [A.opn]; simp [PS.into]
  · obtain ⟨N, h1, h2⟩ := A.ex
    have : u.nodes = N := by rw [h1]; rfl
    simp only [PS.next]; rw [h2, this]; rfl
/-- A row of one post in brackets. -/
theorem row_of {l2 : List Tk} {s2 t2 : PS} {k : Int} (h3 : (tkAt l2 s2.read).kind = 3) (h : Runs l2 .group s2 (.ok k t2)) (hb : begK (tkAt l2 t2.read).kind = false) (h6 : (tkAt l2 t2.read).kind ≠ 6) (h7 : (tkAt l2 t2.read).kind ≠ 7) : Runs l2 .row s2 (.ok k t2) :=
  ((Runs.atomG h3 h).post (Runs.postLStop h6 h7)).row (Runs.rowLStop (by simp [hb]))
def LikeL (l l2 : List Tk) : Prop := ∀ i, LikeT (tkAt l i) (tkAt l2 i)
theorem tk_left {a b : List Tk} {i : Nat} (h : i < a.length) : tkAt (a ++ b) i = tkAt a i := by unfold tkAt; rw [List.getD_eq_getElem?_getD, List.getD_eq_getElem?_getD, List.getElem?_append_left h]
theorem tk_right {a b : List Tk} {i : Nat} (h : a.length ≤ i) : tkAt (a ++ b) i = tkAt b (i - a.length) := by unfold tkAt; rw [List.getD_eq_getElem?_getD, List.getD_eq_getElem?_getD, List.getElem?_append_right h]
theorem tk_drop {a : List Tk} {i : Nat} (h : i < a.length - 1) : tkAt a.dropLast i = tkAt a i := by unfold tkAt; rw [List.getD_eq_getElem?_getD, List.getD_eq_getElem?_getD, List.getElem?_dropLast, if_pos h]
theorem tk_cons {x : Tk} {a : List Tk} {i : Nat} : tkAt (x :: a) (i + 1) = tkAt a i := rfl
def inBr (a : List Tk) : List Tk := { kind := 3 } :: (a.dropLast ++ [{ kind := 4 }, tkEnd])
theorem inBr_len {a : List Tk} (h : 0 < a.length) : (inBr a).length = a.length + 2 := by simp [inBr]; omega
theorem inBr_in {a : List Tk} {i : Nat} (h : i < a.length - 1) : tkAt (inBr a) (i + 1) = tkAt a i := by
  unfold inBr; rw [tk_cons, tk_left (by simp; omega), tk_drop h]
theorem inBr_shut {a : List Tk} (h : 0 < a.length) : (tkAt (inBr a) a.length).kind = 4 := by
  obtain ⟨j, hj⟩ : ∃ j, a.length = j + 1 := ⟨a.length - 1, by omega⟩
  rw [hj]; unfold inBr; rw [tk_cons, tk_right (by simp; omega), show j - a.dropLast.length = 0 by simp; omega]; rfl
theorem inBr_end {a : List Tk} (h : 0 < a.length) : (tkAt (inBr a) (a.length + 1)).kind = 10 := by
  unfold inBr; rw [tk_cons, tk_right (by simp), show a.length - a.dropLast.length = 1 by simp; omega]; rfl
/-- In brackets, with some tokens ahead. -/
theorem br_of {l l2 : List Tk} {k : Int} {u s2 : PS} (he : TEnds l) (hd : PDone l k u) (h64 : ∀ i, cntO l (s2.opn.length + 1) i ≤ 64) (hl : ∀ i, i < l.length + 1 → LikeT (tkAt (inBr l) i) (tkAt l2 (i + s2.read))) (hf : u.count + s2.count ≤ 4096) :
    (tkAt l2 s2.read).kind = 3 ∧ ∃ t2, Runs l2 .group s2 (.ok (k + s2.count) t2) ∧ t2.read = s2.read + l.length + 1 ∧ t2.opn = s2.opn ∧ t2.count = u.count + s2.count ∧ t2.nodes = s2.nodes ++ u.nodes.map (mvN (s2.count : Int)) := by
  have hp := he.pos
  have e3 : (tkAt l2 s2.read).kind = 3 := by have := (hl 0 (by omega)).1; rw [Nat.zero_add] at this; rw [this]; rfl
  refine ⟨e3, group_of hd h64 e3 (fun i hi => ?_) ?_ hf⟩
  · have := hl (i + 1) (by omega)
    rw [inBr_in hi] at this
    rw [show i + (s2.read + 1) = i + 1 + s2.read by omega]; exact this
  · have := (hl l.length (by omega)).1
    rw [inBr_shut hp] at this
    rw [show l.length - 1 + (s2.read + 1) = l.length + s2.read by omega]; exact this
/-- In brackets the same is parsed. -/
theorem parse_br {l l2 : List Tk} {k : Int} {u : PS} (he : TEnds l) (hd : PDone l k u) (h64 : ∀ i, cntO l 1 i ≤ 64) (hl : LikeL (inBr l) l2) : ∃ t, parseP l2 = .ok k t ∧ t.nodes = u.nodes := by
  have hp := he.pos
  obtain ⟨e3, t2, R, r1, r2, r3, r4⟩ := br_of (s2 := {}) (l2 := l2) he hd h64 (fun i _ => hl i) (by have := hd.fits; exact this)
  have e10 : (tkAt l2 t2.read).kind = 10 := by
    rw [r1, show ({} : PS).read + l.length + 1 = l.length + 1 from by show 0 + l.length + 1 = _; omega, (hl (l.length + 1)).1]; exact inBr_end hp
  have R2 := (row_of e3 R (by rw [e10]; rfl) (by rw [e10]; decide) (by rw [e10]; decide)).or (Runs.orLStop (by rw [e10]; decide))
  refine ⟨_, runs_parse (k := k) (by simpa using R2) e10 (by rw [r3]; exact hd.fits), ?_⟩
  show t2.nodes = _
  rw [r4]; show [] ++ u.nodes.map (mvN ((0 : Nat) : Int)) = _
  rw [List.nil_append]; exact map_mv_zero _
theorem cnt_less {l : List Tk} {e e2 : Nat} (h : e ≤ e2) : ∀ i, cntO l e i ≤ cntO l e2 i
  | 0 => h
  | i + 1 => by
    have q := cnt_less (l := l) h i
    simp only [cntO]; unfold stepO
    split
    · omega
    · split <;> omega
/-- Behind a frame. -/
def inWide (a : List Tk) : List Tk := { kind := 9 } :: inBr a
theorem parse_wide {l l2 : List Tk} {k : Int} {u : PS} (he : TEnds l) (hd : PDone l k u) (h64 : ∀ i, cntO l 1 i ≤ 64) (hf : u.count < 4096) (hl : LikeL (inWide l) l2) : ∃ t j, parseP l2 = .ok j t ∧ t.nodes = wrapL 9 0 0 u.nodes := by
  have hp := he.pos
  have e9 : (tkAt l2 ({} : PS).read).kind = 9 := (hl 0).1
  obtain ⟨e3, t2, R, r1, r2, r3, r4⟩ := br_of (s2 := ({} : PS).next) (l2 := l2) he hd h64 (fun i _ => hl (i + 1)) (by have := hd.fits; exact this)
  have q3 := lay_read t2 { kind := 9, a := k } (-1)
  have e10 : (tkAt l2 t2.read).kind = 10 := by
    rw [r1, show ({} : PS).next.read + l.length + 1 = l.length + 1 + 1 from by show 0 + 1 + l.length + 1 = _; omega, (hl (l.length + 1 + 1)).1]; exact inBr_end hp
  have hc : t2.count = u.count := r3
  have R1 := Runs.frame e9 (.inr rfl) R
  rw [show k + ((({} : PS).next.count : Nat) : Int) = k by show k + ((0 : Nat) : Int) = k; omega] at R1
  have R2 := ((R1.post (Runs.postLStop (by rw [q3.1, e10]; decide) (by rw [q3.1, e10]; decide))).row (Runs.rowLStop (by rw [q3.1, e10]; decide))).or (Runs.orLStop (by rw [q3.1, e10]; decide))
  refine ⟨_, _, runs_parse R2 (by rw [q3.1]; exact e10) (by rw [q3.2.2, hc]; omega), ?_⟩
  show (t2.lay _ _).nodes = _
  rw [lay_nodes (by omega), r4]
  show [] ++ u.nodes.map (mvN ((0 : Nat) : Int)) ++ _ = _
  rw [List.nil_append, show ((0 : Nat) : Int) = 0 from rfl, map_mv_zero, hd.k]
  unfold wrapL; rw [hd.len]
/-- An or of what is parsed and of what is in brackets. -/
def orOf (a b : List Tk) : List Tk := a.dropLast ++ { kind := 5 } :: inBr b
theorem parse_orOf {l m l2 : List Tk} {k j : Int} {u v : PS} (he : TEnds l) (hd : PDone l k u) (h64 : ∀ i, cntO l 1 i ≤ 64) (he2 : TEnds m) (hd2 : PDone m j v) (h642 : ∀ i, cntO m 1 i ≤ 64) (hf : u.count + v.count < 4096) (hl : LikeL (orOf l m) l2) : ∃ t i, parseP l2 = .ok i t ∧ t.nodes = pairL 5 u.nodes v.nodes := by
  have hp := he.pos
  have hp2 := he2.pos
  have hr := hd.read
  obtain ⟨n, hn⟩ := hd.run
  have S : St 0 0 0 {} {} := ⟨rfl, rfl, rfl⟩
  have in_ : ∀ i, i < l.length - 1 → tkAt (orOf l m) i = tkAt l i := fun i hi => by unfold orOf; rw [tk_left (by simp; omega), tk_drop hi]
  have out_ : ∀ i, tkAt (orOf l m) (l.length - 1 + i) = tkAt ({ kind := 5 } :: inBr m) i := fun i => by unfold orOf; rw [tk_right (by simp), show l.length - 1 + i - l.dropLast.length = i by simp]
  obtain ⟨s2, A, G⟩ := run_goes (l2 := l2) (e := 0) (.inl rfl) n _ _ _ _ hn _ S (fun i _ hi => by rw [← in_ i (by omega)]; exact hl i) (by unfold CntAt; simp [cntO]) (by omega)
  have a1 : s2.read = l.length - 1 := by rw [A.read, hr]; rfl
  have a2 : s2.count = u.count := A.count
  have a3 : s2.opn = [] := A.opn
  have a4 : s2.nodes = u.nodes := by
    obtain ⟨N, h1, h2⟩ := A.ex
    have : u.nodes = N := by rw [h1]; rfl
    rw [h2, this]; show [] ++ N.map (mvN ((0 : Nat) : Int)) = N
    rw [List.nil_append]; exact map_mv_zero _
  have e5 : (tkAt l2 s2.read).kind = 5 := by have := (hl (l.length - 1 + 0)).1; rw [out_] at this; rw [a1]; exact this
  obtain ⟨e3, t2, R, r1, r2, r3, r4⟩ := br_of (s2 := s2.next) (l2 := l2) he2 hd2 (by rw [show s2.next.opn = [] from a3]; exact h642) (fun i _ => by
    have := hl (l.length - 1 + (i + 1)); rw [out_, tk_cons] at this
    rw [show i + s2.next.read = l.length - 1 + (i + 1) by simp only [PS.next]; omega]; exact this) (by show v.count + s2.count ≤ 4096; omega)
  have e10 : (tkAt l2 t2.read).kind = 10 := by
    rw [r1, show s2.next.read + m.length + 1 = l.length - 1 + (m.length + 1 + 1) by simp only [PS.next]; omega, (hl _).1, out_, tk_cons]; exact inBr_end hp2
  have hc : t2.count = v.count + u.count := by rw [r3]; show v.count + s2.count = _; omega
  have q3 := lay_read t2 { kind := 5, a := k, b := j + (s2.count : Int) } (-1)
  simp only [Goes] at G
  have R2 := G (by rw [e5]; rfl) (by rw [e5]; decide) (by rw [e5]; decide) _ (Runs.orLGo e5 (row_of e3 R (by rw [e10]; rfl) (by rw [e10]; decide) (by rw [e10]; decide)) (Runs.orLStop (by rw [(lay_read _ _ _).1, e10]; decide)))
  refine ⟨_, _, runs_parse R2 (by rw [(lay_read _ _ _).1]; exact e10) (by rw [(lay_read _ _ _).2.2, hc]; omega), ?_⟩
  show (t2.lay _ _).nodes = _
  rw [lay_nodes (by omega), r4]
  show s2.nodes ++ v.nodes.map (mvN (s2.count : Int)) ++ [{ kind := 5, a := k + ((0 : Nat) : Int), b := j + (s2.count : Int) }] = _
  rw [a4, a2, hd.k, hd2.k]
  unfold pairL; rw [hd.len, hd2.len]
  congr 2
  simp only [Nd.mk.injEq, true_and, and_true]
  omega
/-- A row of two in brackets. -/
def rowOf (a b : List Tk) : List Tk := (inBr a).dropLast ++ inBr b
theorem parse_rowOf {l m l2 : List Tk} {k j : Int} {u v : PS} (he : TEnds l) (hd : PDone l k u) (h64 : ∀ i, cntO l 1 i ≤ 64) (he2 : TEnds m) (hd2 : PDone m j v) (h642 : ∀ i, cntO m 1 i ≤ 64) (hf : u.count + v.count < 4096) (hl : LikeL (rowOf l m) l2) : ∃ t i, parseP l2 = .ok i t ∧ t.nodes = pairL 4 u.nodes v.nodes := by
  have hp := he.pos
  have hp2 := he2.pos
  have hL := inBr_len hp
  have in_ : ∀ i, i < l.length + 1 → tkAt (rowOf l m) i = tkAt (inBr l) i := fun i hi => by unfold rowOf; rw [tk_left (by rw [List.length_dropLast]; omega), tk_drop (by omega)]
  have out_ : ∀ i, tkAt (rowOf l m) (l.length + 1 + i) = tkAt (inBr m) i := fun i => by unfold rowOf; rw [tk_right (by rw [List.length_dropLast]; omega), show l.length + 1 + i - (inBr l).dropLast.length = i by rw [List.length_dropLast]; omega]
  obtain ⟨e3, s2, R, r1, r2, r3, r4⟩ := br_of (s2 := {}) (l2 := l2) he hd h64 (fun i hi => by rw [← in_ i hi]; exact hl i) (by have := hd.fits; exact this)
  have a1 : s2.read = l.length + 1 := by rw [r1]; show 0 + l.length + 1 = _; omega
  have a2 : s2.count = u.count := r3
  have a3 : s2.opn = [] := r2
  have a4 : s2.nodes = u.nodes := by
    rw [r4]; show [] ++ u.nodes.map (mvN ((0 : Nat) : Int)) = _
    rw [List.nil_append]; exact map_mv_zero _
  obtain ⟨e32, t2, R2, q1, q2, q3, q4⟩ := br_of (s2 := s2) (l2 := l2) he2 hd2 (by rw [a3]; exact h642) (fun i _ => by
    have := hl (l.length + 1 + i); rw [out_] at this
    rw [show i + s2.read = l.length + 1 + i by omega]; exact this) (by omega)
  have e10 : (tkAt l2 t2.read).kind = 10 := by
    rw [q1, show s2.read + m.length + 1 = l.length + 1 + (m.length + 1) by omega, (hl _).1, out_]; exact inBr_end hp2
  have hc : t2.count = v.count + u.count := by rw [q3]; omega
  have P1 := (Runs.atomG e3 R).post (Runs.postLStop (by rw [e32]; decide) (by rw [e32]; decide))
  have P2 := (Runs.atomG e32 R2).post (Runs.postLStop (by rw [e10]; decide) (by rw [e10]; decide))
  have R3 := (P1.row (Runs.rowLGo (by rw [e32]; rfl) P2 (Runs.rowLStop (by rw [(lay_read _ _ _).1, e10]; decide)))).or (Runs.orLStop (by rw [(lay_read _ _ _).1, e10]; decide))
  refine ⟨_, _, runs_parse R3 (by rw [(lay_read _ _ _).1]; exact e10) (by rw [(lay_read _ _ _).2.2, hc]; omega), ?_⟩
  show (t2.lay _ _).nodes = _
  rw [lay_nodes (by omega), q4]
  show s2.nodes ++ v.nodes.map (mvN (s2.count : Int)) ++ [{ kind := 4, a := k + ((0 : Nat) : Int), b := j + (s2.count : Int) }] = _
  rw [a4, a2, hd.k, hd2.k]
  unfold pairL; rw [hd.len, hd2.len]
  congr 2
  simp only [Nd.mk.injEq, true_and, and_true]
  omega
end Go.Proofs.Ytencdlcpnbdlbaa
/- Descriptions out of tokens: faults behind what is parsed; how deep. -/
namespace Go.Proofs.Ytencdlcpnbdlbaa
open Go
set_option linter.unusedVariables false
set_option linter.unusedSimpArgs false

theorem runs_parse_bad {l : List Tk} {e p : Int} (h : Runs l .or {} (.bad e p)) : parseP l = .bad e p := by
  unfold parseP; rw [h.whole]; rfl
theorem runs_parse_want {l : List Tk} {k : Int} {u : PS} {e p : Int} (h : Runs l .or {} (.ok k u)) (hk : (tkAt l u.read).kind ≠ 10) (hf : faultP l u = .bad e p) : parseP l = .bad e p := by
  unfold parseP
  rw [h.whole]
  simp only [PR.bind]
  rw [if_neg hk]; exact hf
theorem fault_none {l : List Tk} {s : PS} (ho : s.opn = []) : faultP l s = .bad 7 (tkAt l s.read).at_ := by
  unfold faultP; rw [ho]
  split
  · rename_i h; cases h
  · rfl
theorem likeT_rfl (x : Tk) : LikeT x x := ⟨rfl, rfl, rfl, rfl, rfl⟩
/-- Where one token more would be read, a fault of that is the whole's. -/
theorem run_goesB {l l2 : List Tk} {c d : Nat} {er p : Int} : ∀ (n : Nat) (m : Md) (s : PS) (k : Int) (t : PS), run l n m s = .ok k t → (m = .or ∨ ∃ a, m = .orL a ∧ s.read < t.read) → ∀ s2, St c d 0 s s2 → LikeR l l2 d s.read t.read → CntAt l 0 s → t.count + c ≤ 4096 →
    (tkAt l2 (t.read + d)).kind ≠ 6 → (tkAt l2 (t.read + d)).kind ≠ 7 → (∀ a t2, t2.read = t.read + d → t2.opn = s2.opn → Runs l2 (.rowL a) t2 (.bad er p)) → (m = .or → Runs l2 .or s2 (.bad er p)) ∧ (∀ a, m = .orL a → Runs l2 (.orL (a + c)) s2 (.bad er p))
  | 0, _, _, _, _, h, _, _, _, _, _, _, _, _, _ => by cases h
  | n + 1, m, s, k, t, h, hm, s2, hs, hl, hc, hf, h6, h7, H => by
    rcases hm with rfl | ⟨a, rfl, hlt⟩
    · refine ⟨fun _ => ?_, fun a ha => by cases ha⟩
      obtain ⟨a, u, h1, h2⟩ := bind_ok h
      have q1 := run_read n _ _ _ _ h1
      have q2 := run_read n _ _ _ _ h2
      have w1 := run_stop n _ _ _ _ h1
      simp only [eats] at q1 q2 w1
      obtain ⟨u2, A1, G1⟩ := run_goes (.inl rfl) n _ _ _ _ h1 s2 hs (hl.sub (Nat.le_refl _) (by omega)) hc (by omega)
      simp only [Goes] at G1
      rcases Nat.lt_or_ge u.read t.read with hh | hh
      · have T := hl u.read (by omega) hh
        rw [← A1.read] at T
        have Q := (run_goesB n _ _ _ _ h2 (.inr ⟨_, rfl, hh⟩) u2 (A1.st hs q1.2.1) (hl.sub (by omega) (Nat.le_refl _)) (run_cnt n _ _ _ _ h1 hc) hf h6 h7 (fun b t2 e1 e2 => H b t2 e1 (by rw [e2, A1.opn]))).2 _ rfl
        exact (G1 (by rw [T.1]; exact w1.2.1) (by rw [T.1]; exact w1.2.2) _ (Runs.rowLStop (by rw [T.1]; simp [w1.1]))).or Q
      · have e : u2.read = t.read + d := by rw [A1.read]; omega
        exact Runs.orB (G1 (by rw [e]; exact h6) (by rw [e]; exact h7) _ (H _ u2 e A1.opn))
    · refine ⟨fun ha => (by cases ha), fun a2 ha => ?_⟩
      cases ha
      simp only [run] at h
      split at h
      · rename_i hk
        obtain ⟨b, u, h1, h2⟩ := bind_ok h
        have q1 := run_read n _ _ _ _ h1
        have q2 := run_read n _ _ _ _ h2
        have w1 := run_stop n _ _ _ _ h1
        have q3 := lay_read u { kind := 5, a := a, b := b } (-1)
        simp only [eats, PS.next] at q1 q2 w1
        have C1 := hc.next (by rw [hk]; decide) (by rw [hk]; decide)
        obtain ⟨u2, A1, G1⟩ := run_goes (.inl rfl) n _ _ _ _ h1 s2.next hs.next (hl.sub (by simp only [PS.next]; omega) (by omega)) C1 (by omega)
        simp only [Goes] at G1
        have hk2 : (tkAt l2 s2.read).kind = 5 := by rw [hs.read, (hl s.read (Nat.le_refl _) (by omega)).1, hk]
        rcases Nat.lt_or_ge u.read t.read with hh | hh
        · have T := hl u.read (by omega) hh
          rw [← A1.read] at T
          have A3 := A1.next'.lay (n := { kind := 5, a := a, b := b }) (n2 := { kind := 5, a := a + c, b := b + c }) (by omega) (by simp [mvN]) (-1) (-1)
          have Q := (run_goesB n _ _ _ _ h2 (.inr ⟨_, rfl, by omega⟩) _ (A3.st hs (by rw [q3.2.1]; exact q1.2.1)) (hl.sub (by omega) (Nat.le_refl _)) ((run_cnt n _ _ _ _ h1 C1).lay _ _) hf h6 h7 (fun b t2 e1 e2 => H b t2 e1 (by rw [e2, A3.opn]))).2 _ rfl
          rw [← cast_more A1.count] at Q
          exact Runs.orLGo hk2 (G1 (by rw [T.1]; exact w1.2.1) (by rw [T.1]; exact w1.2.2) _ (Runs.rowLStop (by rw [T.1]; simp [w1.1]))) Q
        · have e : u2.read = t.read + d := by rw [A1.read]; omega
          exact Runs.orLB hk2 (G1 (by rw [e]; exact h6) (by rw [e]; exact h7) _ (H _ u2 e A1.opn))
      · cases h; exact absurd hlt (Nat.lt_irrefl _)
/-- Behind what is parsed, two tokens in place of its TkEnd. -/
def endOf (l : List Tk) (x y : Tk) : List Tk := l.dropLast ++ [x, y]
theorem end_in {l : List Tk} {x y : Tk} {i : Nat} (h : i < l.length - 1) : tkAt (endOf l x y) i = tkAt l i := by unfold endOf; rw [tk_left (by simp; omega), tk_drop h]
theorem end_x {l : List Tk} {x y : Tk} : tkAt (endOf l x y) (l.length - 1) = x := by unfold endOf; rw [tk_right (by simp), show l.length - 1 - l.dropLast.length = 0 by simp]; rfl
theorem end_y {l : List Tk} {x y : Tk} : tkAt (endOf l x y) (l.length - 1 + 1) = y := by unfold endOf; rw [tk_right (by simp), show l.length - 1 + 1 - l.dropLast.length = 1 by simp]; rfl
theorem end_goes {l : List Tk} {k : Int} {u : PS} {x y : Tk} (hd : PDone l k u) (hb : begK x.kind = false) (h6 : x.kind ≠ 6) (h7 : x.kind ≠ 7) : ∃ s2 : PS, s2.read = l.length - 1 ∧ s2.opn = [] ∧ ∀ r, Runs (endOf l x y) (.orL k) s2 r → Runs (endOf l x y) .or {} r := by
  obtain ⟨n, hn⟩ := hd.run
  have hr := hd.read
  have S : St 0 0 0 {} {} := ⟨rfl, rfl, rfl⟩
  obtain ⟨s2, A, G⟩ := run_goes (l2 := endOf l x y) (e := 0) (.inl rfl) n _ _ _ _ hn _ S (fun i _ hi => by rw [show i + 0 = i from rfl, end_in (by omega)]; exact likeT_rfl _) (by unfold CntAt; simp [cntO]) (by have := hd.fits; omega)
  have a1 : s2.read = l.length - 1 := by rw [A.read, hr]; rfl
  simp only [Goes] at G
  rw [a1, end_x] at G
  refine ⟨s2, a1, A.opn, fun r h => G hb h6 h7 r ?_⟩
  rw [show k + ((0 : Nat) : Int) = k by omega]; exact h
theorem end_close {l : List Tk} {k : Int} {u : PS} {x y : Tk} (hd : PDone l k u) (hx : x.kind = 4) : parseP (endOf l x y) = .bad 7 x.at_ := by
  obtain ⟨s2, a1, a2, G⟩ := end_goes (x := x) (y := y) hd (by rw [hx]; rfl) (by rw [hx]; decide) (by rw [hx]; decide)
  have e : tkAt (endOf l x y) s2.read = x := by rw [a1]; exact end_x
  refine runs_parse_want (G _ (Runs.orLStop (by rw [e, hx]; decide))) (by rw [e, hx]; decide) ?_
  rw [fault_none a2, e]
theorem end_or {l : List Tk} {k : Int} {u : PS} {x y : Tk} (hd : PDone l k u) (hx : x.kind = 5) (hy : y.kind = 10) : parseP (endOf l x y) = .bad 7 y.at_ := by
  obtain ⟨s2, a1, a2, G⟩ := end_goes (x := x) (y := y) hd (by rw [hx]; rfl) (by rw [hx]; decide) (by rw [hx]; decide)
  have e : tkAt (endOf l x y) s2.read = x := by rw [a1]; exact end_x
  have e2 : tkAt (endOf l x y) s2.next.read = y := by simp only [PS.next]; rw [a1]; exact end_y
  refine runs_parse_bad (G _ (Runs.orLB (by rw [e, hx]) (Runs.rowB (Runs.postB (Runs.atomB (by rw [e2, hy]; rfl) ?_)))))
  rw [fault_none (show s2.next.opn = [] from a2), e2]
theorem end_frame {l : List Tk} {k : Int} {u : PS} {x y : Tk} (hd : PDone l k u) (hx : x.kind = 8) (hy : y.kind = 10) : parseP (endOf l x y) = .bad 7 y.at_ := by
  obtain ⟨n, hn⟩ := hd.run
  have hr := hd.read
  have S : St 0 0 0 {} {} := ⟨rfl, rfl, rfl⟩
  have e0 : tkAt (endOf l x y) (u.read + 0) = x := by rw [hr]; exact end_x
  refine runs_parse_bad ((run_goesB (l2 := endOf l x y) n _ _ _ _ hn (.inl rfl) _ S (fun i _ hi => by rw [show i + 0 = i from rfl, end_in (by omega)]; exact likeT_rfl _) (by unfold CntAt; simp [cntO]) (by have := hd.fits; omega) (by rw [e0, hx]; decide) (by rw [e0, hx]; decide) (fun a t2 h1 h2 => ?_)).1 rfl)
  have e1 : tkAt (endOf l x y) t2.read = x := by rw [h1]; exact e0
  have e2 : tkAt (endOf l x y) t2.next.read = y := by simp only [PS.next]; rw [h1, hr]; exact end_y
  refine Runs.rowLB (by rw [e1, hx]; rfl) (Runs.postB (Runs.frameB (by rw [e1, hx]) (.inl rfl) (Runs.groupF (by rw [e2, hy]; decide) ?_)))
  rw [fault_none (show t2.next.opn = [] from h2), e2]
end Go.Proofs.Ytencdlcpnbdlbaa
/- Descriptions out of tokens: how deep. -/
namespace Go.Proofs.Ytencdlcpnbdlbaa
open Go
set_option linter.unusedVariables false
set_option linter.unusedSimpArgs false

/-- What is too deep is told so by the count. -/
theorem run_deep {l : List Tk} : ∀ (n : Nat) (m : Md) (s : PS) (p : Int), run l n m s = .bad 8 p → CntAt l 0 s → ∃ i, i < l.length ∧ 64 < cntO l 0 (i + 1)
  | 0, _, _, _, h, _ => by cases h
  | n + 1, m, s, p, h, hc => by
    have F : faultP l s ≠ .bad 8 p := by unfold faultP; split <;> (intro hh; cases hh)
    cases m with
    | or =>
      rcases bind_bad h with h1 | ⟨a, u, h1, h2⟩
      · exact run_deep n _ _ _ h1 hc
      · exact run_deep n _ _ _ h2 (run_cnt n _ _ _ _ h1 hc)
    | orL a =>
      simp only [run] at h
      split at h
      · rename_i hk
        have C1 := hc.next (by rw [hk]; decide) (by rw [hk]; decide)
        rcases bind_bad h with h1 | ⟨a, u, h1, h2⟩
        · exact run_deep n _ _ _ h1 C1
        · exact run_deep n _ _ _ h2 ((run_cnt n _ _ _ _ h1 C1).lay _ _)
      · cases h
    | row =>
      rcases bind_bad h with h1 | ⟨a, u, h1, h2⟩
      · exact run_deep n _ _ _ h1 hc
      · exact run_deep n _ _ _ h2 (run_cnt n _ _ _ _ h1 hc)
    | rowL a =>
      simp only [run] at h
      split at h
      · rcases bind_bad h with h1 | ⟨a, u, h1, h2⟩
        · exact run_deep n _ _ _ h1 hc
        · exact run_deep n _ _ _ h2 ((run_cnt n _ _ _ _ h1 hc).lay _ _)
      · cases h
    | post =>
      rcases bind_bad h with h1 | ⟨a, u, h1, h2⟩
      · exact run_deep n _ _ _ h1 hc
      · exact run_deep n _ _ _ h2 (run_cnt n _ _ _ _ h1 hc)
    | postL a =>
      simp only [run] at h
      split at h
      · rename_i hk
        exact run_deep n _ _ _ h (CntAt.next (hc.lay _ _) (by rw [(lay_read _ _ _).1, hk]; decide) (by rw [(lay_read _ _ _).1, hk]; decide))
      · split at h
        · rename_i hk
          exact run_deep n _ _ _ h (CntAt.next (hc.lay _ _) (by rw [(lay_read _ _ _).1, hk]; decide) (by rw [(lay_read _ _ _).1, hk]; decide))
        · cases h
    | atom =>
      simp only [run] at h
      split at h
      · cases h
      · split at h
        · cases h
        · split at h
          · exact run_deep n _ _ _ h hc
          · split at h
            · rename_i hk
              rcases bind_bad h with h1 | ⟨a, u, h1, h2⟩
              · exact run_deep n _ _ _ h1 (hc.next (by rw [hk]; decide) (by rw [hk]; decide))
              · cases h2
            · split at h
              · rename_i hk
                rcases bind_bad h with h1 | ⟨a, u, h1, h2⟩
                · exact run_deep n _ _ _ h1 (hc.next (by rw [hk]; decide) (by rw [hk]; decide))
                · cases h2
              · exact absurd h F
    | group =>
      simp only [run] at h
      split at h
      · rename_i hk
        split at h
        · refine ⟨s.read, tk_in (by rw [hk]; decide), ?_⟩
          unfold CntAt at hc
          simp only [cntO, stepO]; rw [if_pos hk, ← hc]; omega
        · rcases bind_bad h with h1 | ⟨a, u, h1, h2⟩
          · exact run_deep n _ _ _ h1 (hc.into hk)
          · split at h2
            · cases h2
            · have F2 : faultP l u ≠ .bad 8 p := by unfold faultP; split <;> (intro hh; cases hh)
              exact absurd h2 F2
      · exact absurd h F
    | inside =>
      simp only [run] at h
      split at h
      · cases h
      · exact run_deep n _ _ _ h hc
theorem parse_deep {l : List Tk} {p : Int} (h : parseP l = .bad 8 p) : ∃ i, i < l.length ∧ 64 < cntO l 0 (i + 1) := by
  rcases bind_bad h with h1 | ⟨k, u, h1, h2⟩
  · exact run_deep _ _ _ _ h1 (by unfold CntAt; simp [cntO])
  · split at h2
    · split at h2 <;> cases h2
    · have F : faultP l u ≠ .bad 8 p := by unfold faultP; split <;> (intro hh; cases hh)
      exact absurd h2 F
/-- What is parsed isn't too deep. -/
def Shal (l : List Tk) (i j : Nat) : Prop := ∀ q, i ≤ q → q ≤ j → cntO l 0 q ≤ 64
theorem Shal.glue {l : List Tk} {i j k : Nat} (h : Shal l i j) (h2 : Shal l j k) : Shal l i k := fun q h3 h4 => by
  rcases Nat.le_total q j with hh | hh
  · exact h q h3 hh
  · exact h2 q hh h4
theorem CntAt.shal {l : List Tk} {s : PS} (h : CntAt l 0 s) (ho : s.opn.length ≤ 64) : Shal l s.read s.read := fun q h3 h4 => by
  rw [show q = s.read by omega]; unfold CntAt at h; omega
theorem Shal.one {l : List Tk} {s : PS} (h : CntAt l 0 s) (ho : s.opn.length ≤ 64) (h2 : CntAt l 0 s.next) : Shal l s.read s.next.read := fun q h3 h4 => by
  simp only [PS.next] at h4
  unfold CntAt at h h2
  simp only [PS.next] at h2
  rcases Nat.lt_or_ge q (s.read + 1) with hh | hh
  · rw [show q = s.read by omega]; omega
  · rw [show q = s.read + 1 by omega]; omega
theorem run_shal {l : List Tk} : ∀ (n : Nat) (m : Md) (s : PS) (k : Int) (t : PS), run l n m s = .ok k t → CntAt l 0 s → s.opn.length ≤ 64 → Shal l s.read t.read
  | 0, _, _, _, _, h, _, _ => by cases h
  | n + 1, m, s, k, t, h, hc, ho => by
    have two : ∀ {m1 m2 : Md} {s1 u : PS} {a b : Int}, run l n m1 s1 = .ok a u → run l n m2 u = .ok b t → CntAt l 0 s1 → s1.opn.length ≤ 64 → Shal l s1.read t.read := by
      intro m1 m2 s1 u a b h1 h2 c1 o1
      exact (run_shal n _ _ _ _ h1 c1 o1).glue (run_shal n _ _ _ _ h2 (run_cnt n _ _ _ _ h1 c1) (by rw [(run_read n _ _ _ _ h1).2.1]; exact o1))
    have twoL : ∀ {m1 m2 : Md} {s1 u : PS} {a b : Int} (x : Nd) (p : Int), run l n m1 s1 = .ok a u → run l n m2 (u.lay x p) = .ok b t → CntAt l 0 s1 → s1.opn.length ≤ 64 → Shal l s1.read t.read := by
      intro m1 m2 s1 u a b x p h1 h2 c1 o1
      have q3 := lay_read u x p
      have Q := run_shal n _ _ _ _ h2 ((run_cnt n _ _ _ _ h1 c1).lay _ _) (by rw [q3.2.1, (run_read n _ _ _ _ h1).2.1]; exact o1)
      rw [q3.1] at Q
      exact (run_shal n _ _ _ _ h1 c1 o1).glue Q
    cases m with
    | or => obtain ⟨a, u, h1, h2⟩ := bind_ok h; exact two h1 h2 hc ho
    | orL a =>
      simp only [run] at h
      split at h
      · rename_i hk
        have C1 := hc.next (by rw [hk]; decide) (by rw [hk]; decide)
        obtain ⟨a, u, h1, h2⟩ := bind_ok h
        exact (Shal.one hc ho C1).glue (twoL _ _ h1 h2 C1 ho)
      · cases h; exact hc.shal ho
    | row => obtain ⟨a, u, h1, h2⟩ := bind_ok h; exact two h1 h2 hc ho
    | rowL a =>
      simp only [run] at h
      split at h
      · obtain ⟨a, u, h1, h2⟩ := bind_ok h
        exact twoL _ _ h1 h2 hc ho
      · cases h; exact hc.shal ho
    | post => obtain ⟨a, u, h1, h2⟩ := bind_ok h; exact two h1 h2 hc ho
    | postL a =>
      simp only [run] at h
      split at h
      · rename_i hk
        have C1 := hc.next (by rw [hk]; decide) (by rw [hk]; decide)
        have C2 : CntAt l 0 (s.lay { kind := 6, a := a } (tkAt l s.read).at_).next := CntAt.next (hc.lay _ _) (by rw [(lay_read _ _ _).1, hk]; decide) (by rw [(lay_read _ _ _).1, hk]; decide)
        have Q := run_shal n _ _ _ _ h C2 (by show (s.lay _ _).opn.length ≤ 64; rw [(lay_read _ _ _).2.1]; exact ho)
        simp only [PS.next] at Q
        rw [(lay_read _ _ _).1] at Q
        exact (Shal.one hc ho C1).glue Q
      · split at h
        · rename_i hk
          have C1 := hc.next (by rw [hk]; decide) (by rw [hk]; decide)
          have C2 : CntAt l 0 (s.lay { kind := 7, a := a, lo := (tkAt l s.read).lo, hi := (tkAt l s.read).hi } (tkAt l s.read).at_).next := CntAt.next (hc.lay _ _) (by rw [(lay_read _ _ _).1, hk]; decide) (by rw [(lay_read _ _ _).1, hk]; decide)
          have Q := run_shal n _ _ _ _ h C2 (by show (s.lay _ _).opn.length ≤ 64; rw [(lay_read _ _ _).2.1]; exact ho)
          simp only [PS.next] at Q
          rw [(lay_read _ _ _).1] at Q
          exact (Shal.one hc ho C1).glue Q
        · cases h; exact hc.shal ho
    | atom =>
      simp only [run] at h
      split at h
      · rename_i hk
        cases h
        rw [(lay_read _ _ _).1]
        exact Shal.one hc ho (hc.next (by rw [hk]; decide) (by rw [hk]; decide))
      · split at h
        · rename_i hk
          cases h
          rw [(lay_read _ _ _).1]
          exact Shal.one hc ho (hc.next (by rw [hk]; decide) (by rw [hk]; decide))
        · split at h
          · exact run_shal n _ _ _ _ h hc ho
          · split at h
            · rename_i hk
              have C1 := hc.next (by rw [hk]; decide) (by rw [hk]; decide)
              obtain ⟨a, u, h1, h2⟩ := bind_ok h
              cases h2
              rw [(lay_read _ _ _).1]
              exact (Shal.one hc ho C1).glue (run_shal n _ _ _ _ h1 C1 ho)
            · split at h
              · rename_i hk
                have C1 := hc.next (by rw [hk]; decide) (by rw [hk]; decide)
                obtain ⟨a, u, h1, h2⟩ := bind_ok h
                cases h2
                rw [(lay_read _ _ _).1]
                exact (Shal.one hc ho C1).glue (run_shal n _ _ _ _ h1 C1 ho)
              · exact absurd h fault_not_ok
    | group =>
      have hc2 := run_cnt (n + 1) _ _ _ _ h hc
      have hr2 := run_read (n + 1) _ _ _ _ h
      simp only [run] at h
      split at h
      · rename_i hk
        split at h
        · cases h
        · rename_i hd
          obtain ⟨a, u, h1, h2⟩ := bind_ok h
          have C1 := hc.into hk
          have Q := run_shal n _ _ _ _ h1 C1 (by simp; omega)
          split at h2
          · cases h2
            intro q h3 h4
            simp only [PS.next] at h4 Q
            unfold CntAt at hc hc2
            simp only [PS.next] at hc2 hr2
            rcases Nat.lt_or_ge q (s.read + 1) with hh | hh
            · rw [show q = s.read by omega]; omega
            · rcases Nat.lt_or_ge q (u.read + 1) with hh2 | hh2
              · exact Q q hh (by omega)
              · rw [show q = u.read + 1 by omega, ← hc2, hr2.2.1]; omega
          · exact absurd h2 fault_not_ok
      · exact absurd h fault_not_ok
    | inside =>
      simp only [run] at h
      split at h
      · cases h
        rw [(lay_read _ _ _).1]; exact hc.shal ho
      · exact run_shal n _ _ _ _ h hc ho
theorem done_shal {l : List Tk} {k : Int} {u : PS} (he : TEnds l) (hd : PDone l k u) {i : Nat} (hi : i < l.length) : cntO l 0 (i + 1) ≤ 64 := by
  obtain ⟨n, hn⟩ := hd.run
  have S := run_shal n _ _ _ _ hn (by unfold CntAt; simp [cntO]) (by simp)
  rw [hd.read] at S
  rcases Nat.lt_or_ge i (l.length - 1) with hh | hh
  · exact S (i + 1) (Nat.zero_le _) (by omega)
  · have e : i = l.length - 1 := by omega
    simp only [cntO, stepO]; rw [e, he.last, if_neg (by decide), if_neg (by decide)]
    exact S _ (Nat.zero_le _) (Nat.le_refl _)
/-- So many brackets, one within the other. -/
structure Nest (l : List Tk) (m : Nat) : Prop where
  open_ : ∀ i, i < m → (tkAt l i).kind = 3 ∧ (tkAt l i).at_ = (i : Int)
  mid : (tkAt l m).kind = 1
  shut : ∀ i, m < i → i ≤ 2 * m → (tkAt l i).kind = 4
  last : (tkAt l (2 * m + 1)).kind = 10
theorem nest_end {l : List Tk} {m : Nat} (h : Nest l m) {j : Nat} (hj : j ≤ m) : begK (tkAt l (m + 1 + j)).kind = false ∧ (tkAt l (m + 1 + j)).kind ≠ 5 ∧ (tkAt l (m + 1 + j)).kind ≠ 6 ∧ (tkAt l (m + 1 + j)).kind ≠ 7 := by
  rcases Nat.lt_or_ge j m with hh | hh
  · rw [h.shut _ (by omega) (by omega)]; decide
  · rw [show m + 1 + j = 2 * m + 1 by omega, h.last]; decide
theorem nest_ok {l : List Tk} {m : Nat} (h : Nest l m) (hm : m ≤ 64) : ∀ (j : Nat) (s : PS), s.read + j = m → s.opn.length = s.read → s.count = 0 → s.nodes = [] → ∃ t : PS, Runs l .or s (.ok 0 t) ∧ t.read = m + 1 + j ∧ t.opn = s.opn ∧ t.count = 1 ∧ t.nodes.length = 1
  | 0, s, h1, h2, h3, h4 => by
    have e := nest_end h (Nat.zero_le m)
    have hr : s.read = m := by omega
    have L := lay_fits (s := s.next) (by show s.count < 4096; omega) { kind := 2, cls := (tkAt l s.read).cls } (-1)
    have R := Runs.bytes (l := l) (s := s) (by rw [hr]; exact h.mid)
    have er : (s.next.lay { kind := 2, cls := (tkAt l s.read).cls } (-1)).read = m + 1 + 0 := by rw [(lay_read _ _ _).1]; simp only [PS.next]; omega
    rw [h3] at R
    refine ⟨_, ((R.post (Runs.postLStop (by rw [er]; exact e.2.2.1) (by rw [er]; exact e.2.2.2))).row (Runs.rowLStop (by rw [er]; simp [e.1]))).or (Runs.orLStop (by rw [er]; exact e.2.1)), er, ?_, ?_, ?_⟩
    · rw [(lay_read _ _ _).2.1]; rfl
    · rw [(lay_read _ _ _).2.2]; show s.count + 1 = 1; omega
    · rw [L]; show (s.nodes ++ _).length = 1; rw [h4]; rfl
  | j + 1, s, h1, h2, h3, h4 => by
    have hk := (h.open_ s.read (by omega)).1
    have e := nest_end h (j := j + 1) (by omega)
    obtain ⟨u, R, r1, r2, r3, r4⟩ := nest_ok h hm j (s.into l) (by simp only [PS.into, PS.next]; omega) (by simp only [PS.into, PS.next, List.length_append, List.length_cons, List.length_nil]; omega) h3 h4
    have hn : (tkAt l (s.into l).read).kind ≠ 4 := by
      have : (s.into l).read = s.read + 1 := rfl
      rw [this]
      rcases Nat.lt_or_ge (s.read + 1) m with hh | hh
      · rw [(h.open_ _ hh).1]; decide
      · rw [show s.read + 1 = m by omega, h.mid]; decide
    have G := Runs.group hk (by omega) (Runs.inside hn R) (by rw [r1]; exact h.shut _ (by omega) (by omega))
    have er : ({ u.next with opn := u.opn.dropLast } : PS).read = m + 1 + (j + 1) := by simp only [PS.next]; omega
    refine ⟨_, (row_of hk G (by rw [er]; exact e.1) (by rw [er]; exact e.2.2.1) (by rw [er]; exact e.2.2.2)).or (Runs.orLStop (by rw [er]; exact e.2.1)), er, ?_, r3, r4⟩
    simp only; rw [r2]; simp [PS.into]
theorem nest_bad {l : List Tk} {m : Nat} (h : Nest l m) (hm : 64 < m) : ∀ (j : Nat) (s : PS), s.read + j = 64 → s.opn.length = s.read → Runs l .or s (.bad 8 64)
  | 0, s, h1, h2 => by
    have hk := h.open_ s.read (by omega)
    have G := Runs.groupDeep hk.1 (by omega)
    rw [hk.2, show ((s.read : Nat) : Int) = 64 by omega] at G
    exact Runs.orB (Runs.rowB (Runs.postB (Runs.atomG hk.1 G)))
  | j + 1, s, h1, h2 => by
    have hk := (h.open_ s.read (by omega)).1
    have R := nest_bad h hm j (s.into l) (by simp only [PS.into, PS.next]; omega) (by simp only [PS.into, PS.next, List.length_append, List.length_cons, List.length_nil]; omega)
    have hn : (tkAt l (s.into l).read).kind ≠ 4 := by
      have : (s.into l).read = s.read + 1 := rfl
      rw [this, (h.open_ _ (by omega)).1]; decide
    exact Runs.orB (Runs.rowB (Runs.postB (Runs.atomG hk (Runs.groupB hk (by omega) (Runs.inside hn R)))))
theorem parse_nest {l : List Tk} {m : Nat} (h : Nest l m) : (m ≤ 64 → ∃ k t, parseP l = .ok k t ∧ t.nodes.length = 1) ∧ (64 < m → parseP l = .bad 8 64) := by
  constructor
  · intro hm
    obtain ⟨t, R, r1, r2, r3, r4⟩ := nest_ok h hm m {} (by simp) rfl rfl rfl
    exact ⟨_, _, runs_parse R (by rw [r1, show m + 1 + m = 2 * m + 1 by omega]; exact h.last) (by omega), r4⟩
  · intro hm
    exact runs_parse_bad (nest_bad h hm 64 {} rfl rfl)
end Go.Proofs.Ytencdlcpnbdlbaa
/- Brackets within brackets: the row of tokens of the statement ParseDeep. -/
namespace Go.Proofs.Ytencdlcpnbdlbaa
open Go
set_option linter.unusedVariables false
set_option linter.unusedSimpArgs false

def opT (i : Nat) : Tk := { kind := 3, at_ := (i : Int) }
def clT : Tk := { kind := 4, at_ := 100 }
def byT : Tk := { kind := 1 }
def enT : Tk := { kind := 10, at_ := 200 }
def opL (m : Nat) : List Tk := (List.range m).map opT
theorem opL_succ (m : Nat) : opL m ++ [opT m] = opL (m + 1) := by unfold opL; rw [List.range_succ]; simp
theorem rep_succ (m : Nat) : List.replicate m clT ++ [clT] = List.replicate (m + 1) clT := by rw [List.replicate_succ']
def nestL (m : Nat) : List Tk := ((opL m ++ [byT]) ++ List.replicate m clT) ++ [enT]
theorem opL_length (m : Nat) : (opL m).length = m := by unfold opL; simp
theorem nestL_length (m : Nat) : (nestL m).length = 2 * m + 2 := by unfold nestL; simp [opL_length]; omega
theorem nestL_open {m i : Nat} (h : i < m) : tkAt (nestL m) i = opT i := by
  unfold nestL
  rw [tk_left (by simp [opL_length]; omega), tk_left (by simp [opL_length]; omega), tk_left (by rw [opL_length]; exact h)]
  unfold opL tkAt; simp [h]
theorem nestL_mid (m : Nat) : tkAt (nestL m) m = byT := by
  unfold nestL
  rw [tk_left (by simp [opL_length]), tk_left (by simp [opL_length]), tk_right (by rw [opL_length]; exact Nat.le_refl _), opL_length, Nat.sub_self]; rfl
theorem nestL_shut {m i : Nat} (h : m < i) (h2 : i ≤ 2 * m) : tkAt (nestL m) i = clT := by
  unfold nestL
  have hl : (opL m ++ [byT]).length = m + 1 := by simp [opL_length]
  rw [tk_left (by rw [List.length_append, hl, List.length_replicate]; omega), tk_right (by rw [hl]; omega), hl]
  unfold tkAt
  rw [List.getD_eq_getElem?_getD, List.getElem?_replicate, if_pos (by omega)]; rfl
theorem nestL_last (m : Nat) : tkAt (nestL m) (2 * m + 1) = enT := by
  unfold nestL
  have hl : ((opL m ++ [byT]) ++ List.replicate m clT).length = 2 * m + 1 := by simp [opL_length]; omega
  rw [tk_right (by rw [hl]; exact Nat.le_refl _), hl, Nat.sub_self]; rfl
theorem nestL_nest (m : Nat) : Nest (nestL m) m :=
  ⟨fun i h => by rw [nestL_open h]; exact ⟨rfl, rfl⟩, by rw [nestL_mid]; rfl, fun i h h2 => by rw [nestL_shut h h2]; rfl, by rw [nestL_last]; rfl⟩
theorem nestL_ends (m : Nat) : TEnds (nestL m) :=
  ⟨by rw [nestL_length]; omega, by rw [nestL_length, show 2 * m + 2 - 1 = 2 * m + 1 by omega, nestL_last]; rfl, fun p hp => by
    rw [nestL_length] at hp
    rcases Nat.lt_trichotomy p m with h | h | h
    · rw [nestL_open h]; show (3 : Int) ≠ 10; decide
    · subst h; rw [nestL_mid]; decide
    · rw [nestL_shut h (by omega)]; decide⟩
theorem nestL_txt (m p : Nat) : (tkAt (nestL m) p).text.length ≤ 281474976710656 := by
  have : (tkAt (nestL m) p).text = [] := by
    rcases Nat.lt_or_ge p (2 * m + 2) with h | h
    · rcases Nat.lt_trichotomy p m with h2 | h2 | h2
      · rw [nestL_open h2]; rfl
      · subst h2; rw [nestL_mid]; rfl
      · rcases Nat.lt_or_ge p (2 * m + 1) with h3 | h3
        · rw [nestL_shut h2 (by omega)]; rfl
        · rw [show p = 2 * m + 1 by omega, nestL_last]; rfl
    · unfold tkAt; rw [List.getD_eq_getElem?_getD, List.getElem?_eq_none (by rw [nestL_length]; exact h)]; rfl
  rw [this]; simp
end Go.Proofs.Ytencdlcpnbdlbaa
