/- How deep tokens of the grammar stand: plain mathematics. -/
import Derived.Test.YtcgjmnhmhiddkaaGreatDoorM14
import Derived.Test.YtcgjmnhmhiddkaaGreatDoorM12
namespace Go.Proofs.YtcgjmnhmhiddkaaGreatDoor
open Go
set_option linter.unusedVariables false
set_option linter.unusedSimpArgs false
def stpK (k : Int) : Int := if k = 3 then 1 else if k = 4 then -1 else 0
def nest (l : List Tk) (a : Nat) : Nat → Int
  | 0 => 0
  | n + 1 => nest l a n + stpK (tkAt l (a + n)).kind
theorem nest_add (l : List Tk) (a n : Nat) : ∀ m, nest l a (n + m) = nest l a n + nest l (a + n) m
  | 0 => by rw [Nat.add_zero]; show _ = _ + 0; omega
  | m + 1 => by
    rw [← Nat.add_assoc, nest, nest_add l a n m, nest, Nat.add_assoc a n m]; omega
theorem nest_succ (l : List Tk) (a n : Nat) : nest l a (n + 1) = stpK (tkAt l a).kind + nest l (a + 1) n := by
  rw [Nat.add_comm n 1, nest_add]
  show (0 + stpK (tkAt l (a + 0)).kind) + _ = _
  rw [Nat.add_zero]; omega
def shut : DM → Prop
  | .or | .inside => False
  | _ => True
structure Nst (l : List Tk) (m : DM) (a n : Nat) : Prop where
  sum : nest l a n = 0
  pos : ∀ j, j ≤ n → 0 ≤ nest l a j
  bar : shut m → ∀ j, j < n → (tkAt l (a + j)).kind = 5 → 0 < nest l a j
  grp : m = .group → ∀ j, 0 < j → j < n → 0 < nest l a j
  some : m ≠ .inside → 0 < n
theorem Nst.mode {l : List Tk} {m m' : DM} {a n : Nat} (h : Nst l m a n) (hs : shut m' → shut m) (hg : m' ≠ .group) (hn : m ≠ .inside) : Nst l m' a n := ⟨h.sum, h.pos, fun k => h.bar (hs k), fun k => absurd k hg, fun _ => h.some hn⟩
theorem Nst.join {l : List Tk} {m m1 m2 : DM} {a n k : Nat} (h : Nst l m1 a n) (e : Nst l m2 (a + n) k) (hs : shut m → shut m1 ∧ shut m2) (hg : m ≠ .group) (h1 : m1 ≠ .inside) : Nst l m a (n + k) := by
  refine ⟨by rw [nest_add, h.sum, e.sum]; omega, fun j hj => ?_, fun hm j hj h5 => ?_, fun k => absurd k hg, fun _ => by have := h.some h1; omega⟩
  · rcases Nat.lt_or_ge n j with hlt | hge
    · obtain ⟨i, rfl⟩ : ∃ i, j = n + i := ⟨j - n, by omega⟩
      have := e.pos i (by omega)
      rw [nest_add, h.sum]; omega
    · exact h.pos j hge
  · rcases Nat.lt_or_ge j n with hlt | hge
    · exact h.bar (hs hm).1 j hlt h5
    · obtain ⟨i, rfl⟩ : ∃ i, j = n + i := ⟨j - n, by omega⟩
      have := e.bar (hs hm).2 i (by omega) (by rw [Nat.add_assoc]; exact h5)
      rw [nest_add, h.sum]; omega
theorem nst_tok {l : List Tk} {m : DM} {a : Nat} (h : stpK (tkAt l a).kind = 0) (h5 : shut m → (tkAt l a).kind ≠ 5) (hg : m ≠ .group) : Nst l m a 1 := by
  have e1 : nest l a 1 = 0 := by rw [nest_succ, h]; rfl
  refine ⟨e1, fun j hj => ?_, fun hs j hj hk => ?_, fun k => absurd k hg, fun _ => by omega⟩
  · obtain rfl | rfl : j = 0 ∨ j = 1 := by omega
    · exact Int.le_refl _
    · rw [e1]; exact Int.le_refl _
  · obtain rfl : j = 0 := by omega
    exact absurd hk (h5 hs)
theorem stp_no {k : Int} (h3 : k ≠ 3) (h4 : k ≠ 4) : stpK k = 0 := by unfold stpK; rw [if_neg h3, if_neg h4]
theorem dv_nest {l : List Tk} {m : DM} {a b : Nat} {D : List Nd} {A : List Int} (h : Dv l m a b D A) : ∃ n, b = a + n ∧ Nst l m a n := by
  induction h with
  | cls h => exact ⟨1, rfl, nst_tok (stp_no (by omega) (by omega)) (fun _ => by omega) (by intro h; cases h)⟩
  | text h => exact ⟨1, rfl, nst_tok (stp_no (by omega) (by omega)) (fun _ => by omega) (by intro h; cases h)⟩
  | brk h d ih =>
    obtain ⟨n, rfl, q⟩ := ih
    exact ⟨n, rfl, q.mode (fun _ => trivial) (by intro h; cases h) (by intro h; cases h)⟩
  | @frame a b D A h d ih =>
    obtain ⟨n, rfl, q⟩ := ih
    exact ⟨1 + n, by omega, (nst_tok (m := .atom) (stp_no (by omega) (by omega)) (fun _ => by omega) (by intro h; cases h)).join q (fun _ => ⟨trivial, trivial⟩) (by intro h; cases h) (by intro h; cases h)⟩
  | @group a b D A h d h4 ih =>
    obtain ⟨n, rfl, q⟩ := ih
    have e1 : ∀ j, nest l a (j + 1) = 1 + nest l (a + 1) j := fun j => by rw [nest_succ]; unfold stpK; rw [if_pos h]
    have e2 : nest l a (n + 1 + 1) = 0 := by
      rw [nest, e1, q.sum, show a + (n + 1) = a + 1 + n by omega]; unfold stpK; rw [if_neg (by omega), if_pos h4]; rfl
    have hp : ∀ j, 0 < j → j < n + 1 + 1 → 0 < nest l a j := fun j h0 hj => by
      obtain ⟨i, rfl⟩ : ∃ i, j = i + 1 := ⟨j - 1, by omega⟩
      have := q.pos i (by omega)
      rw [e1]; omega
    refine ⟨n + 1 + 1, by omega, e2, fun j hj => ?_, fun _ j hj h5 => ?_, fun _ => hp, fun _ => by omega⟩
    · rcases Nat.lt_or_ge j (n + 1 + 1) with h | h
      · rcases Nat.eq_zero_or_pos j with h0 | h0
        · subst h0; exact Int.le_refl _
        · exact Int.le_of_lt (hp j h0 h)
      · rw [show j = n + 1 + 1 by omega, e2]; exact Int.le_refl _
    · rcases Nat.eq_zero_or_pos j with h0 | h0
      · subst h0; rw [Nat.add_zero] at h5; omega
      · exact hp j h0 hj
  | none h => exact ⟨0, rfl, rfl, (fun j hj => by
    obtain rfl : j = 0 := by omega
    exact Int.le_refl _), fun h => h.elim, (fun h => by cases h), fun h => absurd rfl h⟩
  | some h d ih =>
    obtain ⟨n, rfl, q⟩ := ih
    exact ⟨n, rfl, q.sum, q.pos, fun h => h.elim, (fun h => by cases h), fun _ => q.some (by intro h; cases h)⟩
  | post0 d ih =>
    obtain ⟨n, rfl, q⟩ := ih
    exact ⟨n, rfl, q.mode (fun _ => trivial) (by intro h; cases h) (by intro h; cases h)⟩
  | star d h ih =>
    obtain ⟨n, rfl, q⟩ := ih
    exact ⟨n + 1, by omega, q.join (m := .post) (m2 := .atom) (nst_tok (stp_no (by omega) (by omega)) (fun _ => by omega) (by intro h; cases h)) (fun _ => ⟨trivial, trivial⟩) (by intro h; cases h) (by intro h; cases h)⟩
  | rep d h ih =>
    obtain ⟨n, rfl, q⟩ := ih
    exact ⟨n + 1, by omega, q.join (m := .post) (m2 := .atom) (nst_tok (stp_no (by omega) (by omega)) (fun _ => by omega) (by intro h; cases h)) (fun _ => ⟨trivial, trivial⟩) (by intro h; cases h) (by intro h; cases h)⟩
  | row0 d ih =>
    obtain ⟨n, rfl, q⟩ := ih
    exact ⟨n, rfl, q.mode (fun _ => trivial) (by intro h; cases h) (by intro h; cases h)⟩
  | row d h e ih ih2 =>
    obtain ⟨n, rfl, q⟩ := ih
    obtain ⟨k, rfl, r⟩ := ih2
    exact ⟨n + k, by omega, q.join r (fun _ => ⟨trivial, trivial⟩) (by intro h; cases h) (by intro h; cases h)⟩
  | or0 d ih =>
    obtain ⟨n, rfl, q⟩ := ih
    exact ⟨n, rfl, q.mode (fun h => h.elim) (by intro h; cases h) (by intro h; cases h)⟩
  | or d h e ih ih2 =>
    obtain ⟨n, rfl, q⟩ := ih
    obtain ⟨k, rfl, r⟩ := ih2
    have w : Nst l .or (_ + n) (1 + k) := (nst_tok (m := .or) (stp_no (by omega) (by omega)) (fun h => h.elim) (by intro h; cases h)).join r (fun h => h.elim) (by intro h; cases h) (by intro h; cases h)
    exact ⟨n + (1 + k), by omega, q.join w (fun h => h.elim) (by intro h; cases h) (by intro h; cases h)⟩
theorem grow_ok {l : List Nd} {n : Nd} (h : ∀ i, i < l.length → okN l i (atN l i)) (hn : okN (l ++ [n]) l.length n) : ∀ i, i < (l ++ [n]).length → okN (l ++ [n]) i (atN (l ++ [n]) i) := fun i hi => by
  by_cases hil : i < l.length
  · rw [atN_left hil]
    exact (okN_congr (fun j hj => atN_left (by omega)) _).2 (h i hil)
  · obtain rfl : i = l.length := by simp at hi; omega
    rw [atN_right (Nat.le_refl _), Nat.sub_self]; exact hn
theorem first_grow {l m : List Nd} {i : Nat} (h : i < l.length) : firstP (l ++ m) i = firstP l i := firstP_congr fun j hj => atN_left (by omega)
theorem at_new (l : List Nd) (n : Nd) : atN (l ++ [n]) l.length = n := by rw [atN_right (Nat.le_refl _), Nat.sub_self]; rfl
theorem grow_leaf {l : List Nd} {n : Nd} (hk : leafK n.kind) (hb : backN n = n) (ht : n.kind = 3 → textOk n.text = true) : okN (l ++ [n]) l.length n ∧ firstP (l ++ [n]) l.length = l.length := by
  have hf : firstP (l ++ [n]) l.length = l.length := firstP_stop (by rw [at_new]; unfold leafK at hk; unfold partK; omega)
  exact ⟨(Cs.leaf hk hf).ok fun _ => ⟨hb, ht⟩, hf⟩
theorem grow_one {l : List Nd} (hl : 0 < l.length) {kind lo hi : Int} (hk : 6 ≤ kind ∧ kind ≤ 9) (h0 : kind ≠ 7 → lo = 0 ∧ hi = 0) (h7 : kind = 7 → 0 ≤ lo ∧ lo ≤ hi ∧ hi ≤ 255) {a : Int} (ha : a = (l.length : Int) - 1) :
    okN (l ++ [({ kind := kind, a := a, lo := lo, hi := hi } : Nd)]) l.length { kind := kind, a := a, lo := lo, hi := hi } ∧ firstP (l ++ [({ kind := kind, a := a, lo := lo, hi := hi } : Nd)]) l.length = firstP l (l.length - 1) := by
  have hf : firstP (l ++ [({ kind := kind, a := a, lo := lo, hi := hi } : Nd)]) l.length = firstP (l ++ [({ kind := kind, a := a, lo := lo, hi := hi } : Nd)]) (l.length - 1) := by
    rw [firstP_go (by rw [at_new]; unfold partK; simp only; omega) (by rw [at_new]; simp only; omega) (by rw [at_new]; simp only; omega), at_new]
    congr 1; simp only; omega
  refine ⟨(Cs.one hk hl ha rfl h0 h7 ⟨rfl, rfl⟩ hf).ok (fun hh => by unfold leafK at hh; simp only at hh; omega), ?_⟩
  rw [hf]; exact first_grow (by omega)
theorem grow_two {l : List Nd} (hl : 0 < l.length) {kind a b : Int} {g : Nat} (hk : kind = 4 ∨ kind = 5) (hg : 0 < g) (hf : firstP l (l.length - 1) = g) (ha : a = (g : Int) - 1) (hb : b = (l.length : Int) - 1) :
    okN (l ++ [({ kind := kind, a := a, b := b } : Nd)]) l.length { kind := kind, a := a, b := b } ∧ firstP (l ++ [({ kind := kind, a := a, b := b } : Nd)]) l.length = firstP l (g - 1) := by
  have hgl : g ≤ l.length - 1 := by have := firstP_le l (l.length - 1); omega
  have hf1 : firstP (l ++ [({ kind := kind, a := a, b := b } : Nd)]) (l.length - 1) = g := by rw [first_grow (by omega)]; exact hf
  have hf2 : firstP (l ++ [({ kind := kind, a := a, b := b } : Nd)]) l.length = firstP (l ++ [({ kind := kind, a := a, b := b } : Nd)]) (g - 1) := by
    rw [firstP_go (by rw [at_new]; unfold partK; simp only; omega) (by rw [at_new]; simp only; omega) (by rw [at_new]; simp only; omega), at_new]
    congr 1; simp only; omega
  refine ⟨(Cs.two hk hl hb (by rw [hf1]; exact ha) (by omega) ⟨rfl, rfl⟩ ⟨rfl, rfl⟩ (by rw [hf1]; exact hf2)).ok (fun hh => by unfold leafK at hh; simp only at hh; omega), ?_⟩
  rw [hf2]; exact first_grow (by omega)
def TkOk (l : List Tk) : Prop := ∀ t ∈ l, (t.kind = 2 → textOk t.text = true) ∧ (t.kind = 7 → 0 ≤ t.lo ∧ t.lo ≤ t.hi ∧ t.hi ≤ 255)
theorem TkOk.at {l : List Tk} (h : TkOk l) (p : Nat) : ((tkAt l p).kind = 2 → textOk (tkAt l p).text = true) ∧ ((tkAt l p).kind = 7 → 0 ≤ (tkAt l p).lo ∧ (tkAt l p).lo ≤ (tkAt l p).hi ∧ (tkAt l p).hi ≤ 255) := by
  by_cases hp : p < l.length
  · have : tkAt l p ∈ l := by unfold tkAt; rw [List.getD_eq_getElem?_getD, List.getElem?_eq_getElem hp]; exact List.getElem_mem _
    exact h _ this
  · have e : tkAt l p = tkEnd := by unfold tkAt; rw [List.getD_eq_getElem?_getD, List.getElem?_eq_none (by omega)]; rfl
    rw [e]; exact ⟨fun h => by revert h; decide, fun h => by revert h; decide⟩
structure Lay (s : PS) : Prop where
  len : s.nodes.length = s.count
  ok : ∀ i, i < s.nodes.length → okN s.nodes i (atN s.nodes i)
theorem Lay.next {s : PS} (h : Lay s) : Lay s.next := ⟨h.len, h.ok⟩
theorem lay_nodes {s : PS} (h : s.count < 4096) (n : Nd) (p : Int) : (s.lay n p).nodes = s.nodes ++ [n] := by unfold PS.lay; rw [if_pos h]
theorem Lay.lay {s : PS} (h : Lay s) (hc : s.count < 4096) {n : Nd} (hn : okN (s.nodes ++ [n]) s.nodes.length n) (p : Int) : Lay (s.lay n p) := by
  constructor
  · rw [lay_nodes hc, (lay_read s n p).2.2, List.length_append, h.len]; rfl
  · rw [lay_nodes hc]; exact grow_ok h.ok hn
def preM (m : Md) (s : PS) (f : Nat) : Prop := match m with
  | .orL a | .rowL a | .postL a => 0 < s.count ∧ a = (s.count : Int) - 1 ∧ firstP s.nodes (s.count - 1) = f
  | _ => f = s.count
structure Laid (s : PS) (f : Nat) (k : Int) (t : PS) : Prop where
  lay : Lay t
  more : ∃ new, t.nodes = s.nodes ++ new
  pos : 0 < t.count
  k : k = (t.count : Int) - 1
  first : firstP t.nodes (t.count - 1) = f
theorem Laid.trans {s u t : PS} {f g : Nat} {j k : Int} (h : Laid s f j u) (h2 : Laid u g k t) : Laid s g k t := by
  obtain ⟨a, ha⟩ := h.more
  obtain ⟨b, hb⟩ := h2.more
  exact ⟨h2.lay, ⟨a ++ b, by rw [hb, ha, List.append_assoc]⟩, h2.pos, h2.k, h2.first⟩
theorem laid_leaf {s : PS} (h : Lay s) (hc : s.count < 4096) {n : Nd} (hk : leafK n.kind) (hb : backN n = n) (ht : n.kind = 3 → textOk n.text = true) (p : Int) : Laid s s.count (s.count : Int) (s.lay n p) := by
  obtain ⟨h1, h2⟩ := grow_leaf (l := s.nodes) hk hb ht
  refine ⟨h.lay hc h1 p, ⟨[n], lay_nodes hc n p⟩, by rw [(lay_read s n p).2.2]; omega, by rw [(lay_read s n p).2.2]; omega, ?_⟩
  rw [(lay_read s n p).2.2, lay_nodes hc, Nat.add_sub_cancel, ← h.len]; exact h2
theorem laid_one {s : PS} {f : Nat} (h : Lay s) (hp : 0 < s.count) (hc : s.count < 4096) (hf : firstP s.nodes (s.count - 1) = f) {kind lo hi a : Int} (hk : 6 ≤ kind ∧ kind ≤ 9) (h0 : kind ≠ 7 → lo = 0 ∧ hi = 0) (h7 : kind = 7 → 0 ≤ lo ∧ lo ≤ hi ∧ hi ≤ 255) (ha : a = (s.count : Int) - 1) (p : Int) :
    Laid s f (s.count : Int) (s.lay { kind := kind, a := a, lo := lo, hi := hi } p) := by
  obtain ⟨h1, h2⟩ := grow_one (l := s.nodes) (by rw [h.len]; exact hp) hk h0 h7 (a := a) (by rw [h.len]; exact ha)
  refine ⟨h.lay hc h1 p, ⟨_, lay_nodes hc _ p⟩, by rw [(lay_read s _ p).2.2]; omega, by rw [(lay_read s _ p).2.2]; omega, ?_⟩
  rw [(lay_read s _ p).2.2, lay_nodes hc, Nat.add_sub_cancel, ← h.len, h2, h.len]; exact hf
theorem laid_two {s : PS} {f g : Nat} (h : Lay s) (hp : 0 < s.count) (hc : s.count < 4096) (hg : 0 < g) (hf : firstP s.nodes (s.count - 1) = g) (hf2 : firstP s.nodes (g - 1) = f) {kind a b : Int} (hk : kind = 4 ∨ kind = 5) (ha : a = (g : Int) - 1) (hb : b = (s.count : Int) - 1) (p : Int) :
    Laid s f (s.count : Int) (s.lay { kind := kind, a := a, b := b } p) := by
  obtain ⟨h1, h2⟩ := grow_two (l := s.nodes) (by rw [h.len]; exact hp) (a := a) (b := b) hk hg (by rw [h.len]; exact hf) ha (by rw [h.len]; exact hb)
  refine ⟨h.lay hc h1 p, ⟨_, lay_nodes hc _ p⟩, by rw [(lay_read s _ p).2.2]; omega, by rw [(lay_read s _ p).2.2]; omega, ?_⟩
  rw [(lay_read s _ p).2.2, lay_nodes hc, Nat.add_sub_cancel, ← h.len, h2]; exact hf2
theorem run_form {l : List Tk} (hl : TkOk l) : ∀ (n : Nat) (m : Md) (s : PS) (f : Nat) (k : Int) (t : PS), run l n m s = .ok k t → t.count ≤ 4096 → Lay s → preM m s f → Laid s f k t
  | 0, _, _, _, _, _, h, _, _, _ => by cases h
  | n + 1, .or, s, f, k, t, h, hc, hs, hp => by
    obtain ⟨a, u, h1, h2⟩ := bind_ok h
    have q2 := run_read n _ _ _ _ h2
    have r1 := run_form hl n .row s f a u h1 (by omega) hs hp
    exact r1.trans (run_form hl n (.orL a) u f k t h2 hc r1.lay ⟨r1.pos, r1.k, r1.first⟩)
  | n + 1, .orL a, s, f, k, t, h, hc, hs, hp => by
    simp only [run] at h
    obtain ⟨hp1, hp2, hp3⟩ := hp
    split at h
    · obtain ⟨b, u, h1, h2⟩ := bind_ok h
      have q1 := run_read n _ _ _ _ h1
      have q2 := run_read n _ _ _ _ h2
      rw [(lay_read u _ _).2.2] at q2
      have r1 := run_form hl n .row s.next s.count b u h1 (by omega) hs.next rfl
      obtain ⟨new, hnew⟩ := r1.more
      have r2 := laid_two (f := f) (kind := 5) (a := a) (b := b) r1.lay r1.pos (by omega) hp1 r1.first (by rw [hnew]; show firstP (s.nodes ++ new) (s.count - 1) = f; rw [first_grow (by rw [hs.len]; omega)]; exact hp3) (.inr rfl) hp2 r1.k (-1)
      have r3 := run_form hl n _ _ f k t h2 hc r2.lay ⟨r2.pos, r2.k, r2.first⟩
      exact (show Laid s s.count b u from ⟨r1.lay, ⟨new, hnew⟩, r1.pos, r1.k, r1.first⟩).trans (r2.trans r3)
    · cases h; exact ⟨hs, ⟨[], by simp⟩, hp1, hp2, hp3⟩
  | n + 1, .row, s, f, k, t, h, hc, hs, hp => by
    obtain ⟨a, u, h1, h2⟩ := bind_ok h
    have q2 := run_read n _ _ _ _ h2
    have r1 := run_form hl n .post s f a u h1 (by omega) hs hp
    exact r1.trans (run_form hl n (.rowL a) u f k t h2 hc r1.lay ⟨r1.pos, r1.k, r1.first⟩)
  | n + 1, .rowL a, s, f, k, t, h, hc, hs, hp => by
    simp only [run] at h
    obtain ⟨hp1, hp2, hp3⟩ := hp
    split at h
    · obtain ⟨b, u, h1, h2⟩ := bind_ok h
      have q1 := run_read n _ _ _ _ h1
      have q2 := run_read n _ _ _ _ h2
      rw [(lay_read u _ _).2.2] at q2
      have r1 := run_form hl n .post s s.count b u h1 (by omega) hs rfl
      obtain ⟨new, hnew⟩ := r1.more
      have r2 := laid_two (f := f) (kind := 4) (a := a) (b := b) r1.lay r1.pos (by omega) hp1 r1.first (by rw [hnew, first_grow (by rw [hs.len]; omega)]; exact hp3) (.inl rfl) hp2 r1.k (-1)
      have r3 := run_form hl n _ _ f k t h2 hc r2.lay ⟨r2.pos, r2.k, r2.first⟩
      exact r1.trans (r2.trans r3)
    · cases h; exact ⟨hs, ⟨[], by simp⟩, hp1, hp2, hp3⟩
  | n + 1, .post, s, f, k, t, h, hc, hs, hp => by
    obtain ⟨a, u, h1, h2⟩ := bind_ok h
    have q2 := run_read n _ _ _ _ h2
    have r1 := run_form hl n .atom s f a u h1 (by omega) hs hp
    exact r1.trans (run_form hl n (.postL a) u f k t h2 hc r1.lay ⟨r1.pos, r1.k, r1.first⟩)
  | n + 1, .postL a, s, f, k, t, h, hc, hs, hp => by
    simp only [run] at h
    obtain ⟨hp1, hp2, hp3⟩ := hp
    split at h
    · have q2 := run_read n _ _ _ _ h
      have q3 := (lay_read s { kind := 6, a := a } (tkAt l s.read).at_).2.2
      have q4 : s.count + 1 ≤ t.count := by have := q2.2.2; simp only [PS.next] at this; omega
      have r2 := laid_one (f := f) (kind := 6) (lo := 0) (hi := 0) (a := a) hs hp1 (by omega) hp3 (by omega) (fun _ => ⟨rfl, rfl⟩) (fun h => by omega) hp2 (tkAt l s.read).at_
      have r3 := run_form hl n _ _ f k t h hc r2.lay.next ⟨r2.pos, r2.k, r2.first⟩
      exact r2.trans ⟨r3.lay, r3.more, r3.pos, r3.k, r3.first⟩
    · split at h
      · rename_i hk7
        have q2 := run_read n _ _ _ _ h
        have q3 := (lay_read s { kind := 7, a := a, lo := (tkAt l s.read).lo, hi := (tkAt l s.read).hi } (tkAt l s.read).at_).2.2
        have q4 : s.count + 1 ≤ t.count := by have := q2.2.2; simp only [PS.next] at this; omega
        have r2 := laid_one (f := f) (kind := 7) (lo := (tkAt l s.read).lo) (hi := (tkAt l s.read).hi) (a := a) hs hp1 (by omega) hp3 (by omega) (fun h => absurd rfl h) (fun _ => (hl.at s.read).2 hk7) hp2 (tkAt l s.read).at_
        have r3 := run_form hl n _ _ f k t h hc r2.lay.next ⟨r2.pos, r2.k, r2.first⟩
        exact r2.trans ⟨r3.lay, r3.more, r3.pos, r3.k, r3.first⟩
      · cases h; exact ⟨hs, ⟨[], by simp⟩, hp1, hp2, hp3⟩
  | n + 1, .atom, s, f, k, t, h, hc, hs, hp => by
    simp only [run] at h
    have hp : f = s.count := hp
    subst hp
    have leafC : ∀ {nd : Nd}, layK s.next nd (-1) = .ok k t → s.count < 4096 ∧ k = (s.count : Int) ∧ t = s.next.lay nd (-1) := fun {nd} e => by
      cases e
      have := (lay_read s.next nd (-1)).2.2
      have e2 : s.next.count = s.count := rfl
      exact ⟨by omega, rfl, rfl⟩
    split at h
    · obtain ⟨c1, rfl, rfl⟩ := leafC h
      have := laid_leaf (s := s.next) hs.next c1 (n := { kind := 2, cls := (tkAt l s.read).cls }) (.inr (.inl rfl)) (by simp [backN]) (fun h => by have h : (2 : Int) = 3 := h; omega) (-1)
      exact ⟨this.lay, this.more, this.pos, this.k, this.first⟩
    · split at h
      · rename_i hk2
        obtain ⟨c1, rfl, rfl⟩ := leafC h
        have := laid_leaf (s := s.next) hs.next c1 (n := { kind := 3, text := (tkAt l s.read).text }) (.inr (.inr rfl)) (by simp [backN]) (fun _ => (hl.at s.read).1 hk2) (-1)
        exact ⟨this.lay, this.more, this.pos, this.k, this.first⟩
      · split at h
        · exact run_form hl n .group s _ k t h hc hs rfl
        · split at h
          · obtain ⟨b, u, h1, h2⟩ := bind_ok h
            cases h2
            have q3 := (lay_read u { kind := 8, a := b } (-1)).2.2
            have r1 := run_form hl n .group s.next s.count b u h1 (by omega) hs.next rfl
            have r2 := laid_one (f := s.count) (kind := 8) (lo := 0) (hi := 0) (a := b) r1.lay r1.pos (by omega) r1.first (by omega) (fun _ => ⟨rfl, rfl⟩) (fun h => by omega) r1.k (-1)
            exact (show Laid s s.count b u from ⟨r1.lay, r1.more, r1.pos, r1.k, r1.first⟩).trans r2
          · split at h
            · obtain ⟨b, u, h1, h2⟩ := bind_ok h
              cases h2
              have q3 := (lay_read u { kind := 9, a := b } (-1)).2.2
              have r1 := run_form hl n .group s.next s.count b u h1 (by omega) hs.next rfl
              have r2 := laid_one (f := s.count) (kind := 9) (lo := 0) (hi := 0) (a := b) r1.lay r1.pos (by omega) r1.first (by omega) (fun _ => ⟨rfl, rfl⟩) (fun h => by omega) r1.k (-1)
              exact (show Laid s s.count b u from ⟨r1.lay, r1.more, r1.pos, r1.k, r1.first⟩).trans r2
            · exact absurd h fault_not_ok
  | n + 1, .group, s, f, k, t, h, hc, hs, hp => by
    simp only [run] at h
    have hp : f = s.count := hp
    subst hp
    split at h
    · split at h
      · cases h
      · obtain ⟨b, u, h1, h2⟩ := bind_ok h
        split at h2
        · cases h2
          have r1 := run_form hl n .inside _ s.count k u h1 hc ⟨hs.len, hs.ok⟩ rfl
          exact ⟨⟨r1.lay.len, r1.lay.ok⟩, r1.more, r1.pos, r1.k, r1.first⟩
        · exact absurd h2 fault_not_ok
    · exact absurd h fault_not_ok
  | n + 1, .inside, s, f, k, t, h, hc, hs, hp => by
    simp only [run] at h
    have hp : f = s.count := hp
    subst hp
    split at h
    · cases h
      have q3 := (lay_read s { kind := 1 } (-1)).2.2
      exact laid_leaf hs (by omega) (.inl rfl) (by simp [backN]) (fun h => by revert h; decide) (-1)
    · exact run_form hl n .or s _ k t h hc hs rfl
theorem parse_form {l : List Tk} (hl : TkOk l) {k : Int} {t : PS} (h : parseP l = .ok k t) : Form t.nodes ∧ t.nodes.length ≤ 4096 := by
  obtain ⟨a, u, h1, h2⟩ := bind_ok h
  split at h2
  · split at h2
    · cases h2
    · rename_i hcnt
      cases h2
      have r := run_form hl _ .or {} 0 k u h1 (by omega) ⟨rfl, fun i hi => by simp at hi⟩ rfl
      have hlen := r.lay.len
      exact ⟨⟨by show 0 < u.nodes.length; rw [hlen]; exact r.pos, r.lay.ok, by show firstP u.nodes (u.nodes.length - 1) = 0; rw [hlen]; exact r.first⟩, by show u.nodes.length ≤ 4096; omega⟩
  · exact absurd h2 fault_not_ok
def isSt (k : Int) : Bool := decide (k = 6) || decide (k = 7)
def stT (t : Tk) : Option (Int × Int) := if isSt t.kind = true then some (t.kind, t.at_) else none
def sts (l : List Tk) (i j : Nat) : List (Int × Int) := ((l.drop i).take (j - i)).filterMap stT
def mkN (x : Nd × Int) : Option (Int × Int) := if isSt x.1.kind = true then some (x.1.kind, x.2) else none
theorem sts_nil (l : List Tk) (i : Nat) : sts l i i = [] := by unfold sts; rw [Nat.sub_self]; rfl
theorem sts_add {l : List Tk} {i j k : Nat} (h1 : i ≤ j) (h2 : j ≤ k) : sts l i k = sts l i j ++ sts l j k := by
  unfold sts
  rw [show k - i = (j - i) + (k - j) by omega, List.take_add, List.filterMap_append, List.drop_drop, show i + (j - i) = j by omega]
theorem sts_one {l : List Tk} {p : Nat} (h : p < l.length) : sts l p (p + 1) = (stT (tkAt l p)).toList := by
  unfold sts tkAt
  rw [Nat.add_sub_cancel_left, List.drop_eq_getElem_cons h, List.getD_eq_getElem?_getD, List.getElem?_eq_getElem h]
  simp only [List.take_succ_cons, List.take_zero, Option.getD_some]
  cases hs : stT l[p] with
  | none => simp [List.filterMap_cons, hs]
  | some x => simp [List.filterMap_cons, hs]
structure Mks (l : List Tk) (s t : PS) : Prop where
  le : s.read ≤ t.read
  ex : ∃ P : List (Nd × Int), t.nodes = s.nodes ++ P.map (·.1) ∧ t.ats = s.ats ++ P.map (·.2) ∧ (∀ x ∈ P, isSt x.1.kind = false → x.2 = -1) ∧ P.filterMap mkN = sts l s.read t.read
theorem Mks.refl (l : List Tk) (s : PS) : Mks l s s := ⟨Nat.le_refl _, [], by simp, by simp, by simp, by rw [sts_nil]; rfl⟩
theorem Mks.trans {l : List Tk} {s t u : PS} (h : Mks l s t) (k : Mks l t u) : Mks l s u := by
  obtain ⟨h1, P, p1, p2, p3, p4⟩ := h
  obtain ⟨k1, Q, q1, q2, q3, q4⟩ := k
  refine ⟨Nat.le_trans h1 k1, P ++ Q, by rw [q1, p1, List.map_append, List.append_assoc], by rw [q2, p2, List.map_append, List.append_assoc], fun x hx => ?_, by rw [List.filterMap_append, p4, q4, ← sts_add h1 k1]⟩
  rcases List.mem_append.1 hx with h | h
  · exact p3 x h
  · exact q3 x h
theorem Mks.next {l : List Tk} {s : PS} (h : s.read < l.length) (hk : isSt (tkAt l s.read).kind = false) : Mks l s s.next := by
  refine ⟨Nat.le_succ _, [], by simp [PS.next], by simp [PS.next], by simp, ?_⟩
  show _ = sts l s.read (s.read + 1)
  rw [sts_one h]; unfold stT; rw [hk]; rfl
theorem lay_ats {s : PS} (h : s.count < 4096) (n : Nd) (p : Int) : (s.lay n p).ats = s.ats ++ [p] := by unfold PS.lay; rw [if_pos h]
theorem Mks.lay {l : List Tk} {s : PS} (h : s.count < 4096) {n : Nd} (hk : isSt n.kind = false) : Mks l s (s.lay n (-1)) := by
  refine ⟨by rw [(lay_read s n _).1]; exact Nat.le_refl _, [(n, -1)], lay_nodes h n _, lay_ats h n _, fun x hx _ => by simp at hx; rw [hx], ?_⟩
  rw [(lay_read s n _).1, sts_nil]
  simp [mkN, hk]
theorem Mks.star {l : List Tk} {s : PS} (h : s.count < 4096) (hin : s.read < l.length) {n : Nd} (hk : isSt (tkAt l s.read).kind = true) (hn : n.kind = (tkAt l s.read).kind) : Mks l s (s.lay n (tkAt l s.read).at_).next := by
  have hm : ∀ x ∈ [(n, (tkAt l s.read).at_)], isSt x.1.kind = false → x.2 = -1 := by
    intro x hx hx2
    rw [List.mem_singleton] at hx
    rw [hx] at hx2
    rw [hn, hk] at hx2; cases hx2
  have hf : [(n, (tkAt l s.read).at_)].filterMap mkN = sts l s.read (s.read + 1) := by
    rw [sts_one hin]; simp [mkN, stT, hk, hn]
  refine ⟨by show s.read ≤ (s.lay n _).read + 1; rw [(lay_read s n _).1]; omega, [(n, (tkAt l s.read).at_)], lay_nodes h n _, lay_ats h n _, hm, ?_⟩
  show _ = sts l s.read ((s.lay n _).read + 1)
  rw [(lay_read s n _).1]; exact hf
theorem Mks.opn {l : List Tk} {s t : PS} (h : Mks l s t) (o : List Int) : Mks l s { t with opn := o } := ⟨h.le, h.ex⟩
theorem run_marks {l : List Tk} : ∀ (n : Nat) (m : Md) (s : PS) (k : Int) (t : PS), run l n m s = .ok k t → t.count ≤ 4096 → Mks l s t
  | 0, _, _, _, _, h, _ => by cases h
  | n + 1, .or, s, k, t, h, hc => by
    obtain ⟨a, u, h1, h2⟩ := bind_ok h
    have q2 := run_read n _ _ _ _ h2
    exact (run_marks n .row s a u h1 (by omega)).trans (run_marks n (.orL a) u k t h2 hc)
  | n + 1, .orL a, s, k, t, h, hc => by
    simp only [run] at h
    split at h
    · rename_i hk
      have hin := tk_in (l := l) (p := s.read) (by rw [hk]; decide)
      obtain ⟨b, u, h1, h2⟩ := bind_ok h
      have q2 := run_read n _ _ _ _ h2
      rw [(lay_read u _ _).2.2] at q2
      exact (Mks.next hin (by rw [hk]; decide)).trans ((run_marks n .row s.next b u h1 (by omega)).trans ((Mks.lay (by omega) (by decide : isSt (5 : Int) = false)).trans (run_marks n _ _ k t h2 hc)))
    · cases h; exact Mks.refl l s
  | n + 1, .row, s, k, t, h, hc => by
    obtain ⟨a, u, h1, h2⟩ := bind_ok h
    have q2 := run_read n _ _ _ _ h2
    exact (run_marks n .post s a u h1 (by omega)).trans (run_marks n (.rowL a) u k t h2 hc)
  | n + 1, .rowL a, s, k, t, h, hc => by
    simp only [run] at h
    split at h
    · obtain ⟨b, u, h1, h2⟩ := bind_ok h
      have q2 := run_read n _ _ _ _ h2
      rw [(lay_read u _ _).2.2] at q2
      exact (run_marks n .post s b u h1 (by omega)).trans ((Mks.lay (by omega) (by decide : isSt (4 : Int) = false)).trans (run_marks n _ _ k t h2 hc))
    · cases h; exact Mks.refl l s
  | n + 1, .post, s, k, t, h, hc => by
    obtain ⟨a, u, h1, h2⟩ := bind_ok h
    have q2 := run_read n _ _ _ _ h2
    exact (run_marks n .atom s a u h1 (by omega)).trans (run_marks n (.postL a) u k t h2 hc)
  | n + 1, .postL a, s, k, t, h, hc => by
    simp only [run] at h
    split at h
    · rename_i hk
      have hin := tk_in (l := l) (p := s.read) (by rw [hk]; decide)
      have q2 := run_read n _ _ _ _ h
      have q3 := (lay_read s { kind := 6, a := a } (tkAt l s.read).at_).2.2
      have q4 : s.count + 1 ≤ t.count := by have := q2.2.2; simp only [PS.next] at this; omega
      exact (Mks.star (by omega) hin (by rw [hk]; decide) hk.symm).trans (run_marks n _ _ k t h hc)
    · split at h
      · rename_i hk
        have hin := tk_in (l := l) (p := s.read) (by rw [hk]; decide)
        have q2 := run_read n _ _ _ _ h
        have q3 := (lay_read s { kind := 7, a := a, lo := (tkAt l s.read).lo, hi := (tkAt l s.read).hi } (tkAt l s.read).at_).2.2
        have q4 : s.count + 1 ≤ t.count := by have := q2.2.2; simp only [PS.next] at this; omega
        exact (Mks.star (by omega) hin (by rw [hk]; decide) hk.symm).trans (run_marks n _ _ k t h hc)
      · cases h; exact Mks.refl l s
  | n + 1, .atom, s, k, t, h, hc => by
    simp only [run] at h
    have leafC : ∀ {nd : Nd}, layK s.next nd (-1) = .ok k t → s.next.count < 4096 ∧ t = s.next.lay nd (-1) := fun {nd} e => by
      cases e
      have := (lay_read s.next nd (-1)).2.2
      exact ⟨by omega, rfl⟩
    split at h
    · rename_i hk
      have hin := tk_in (l := l) (p := s.read) (by rw [hk]; decide)
      obtain ⟨c1, rfl⟩ := leafC h
      exact (Mks.next hin (by rw [hk]; decide)).trans (Mks.lay c1 (by decide : isSt (2 : Int) = false))
    · split at h
      · rename_i hk
        have hin := tk_in (l := l) (p := s.read) (by rw [hk]; decide)
        obtain ⟨c1, rfl⟩ := leafC h
        exact (Mks.next hin (by rw [hk]; decide)).trans (Mks.lay c1 (by decide : isSt (3 : Int) = false))
      · split at h
        · exact run_marks n .group s k t h hc
        · split at h
          · rename_i hk
            have hin := tk_in (l := l) (p := s.read) (by rw [hk]; decide)
            obtain ⟨b, u, h1, h2⟩ := bind_ok h
            cases h2
            have q3 := (lay_read u { kind := 8, a := b } (-1)).2.2
            exact (Mks.next hin (by rw [hk]; decide)).trans ((run_marks n .group s.next b u h1 (by omega)).trans (Mks.lay (by omega) (by decide : isSt (8 : Int) = false)))
          · split at h
            · rename_i hk
              have hin := tk_in (l := l) (p := s.read) (by rw [hk]; decide)
              obtain ⟨b, u, h1, h2⟩ := bind_ok h
              cases h2
              have q3 := (lay_read u { kind := 9, a := b } (-1)).2.2
              exact (Mks.next hin (by rw [hk]; decide)).trans ((run_marks n .group s.next b u h1 (by omega)).trans (Mks.lay (by omega) (by decide : isSt (9 : Int) = false)))
            · exact absurd h fault_not_ok
  | n + 1, .group, s, k, t, h, hc => by
    simp only [run] at h
    split at h
    · rename_i hk
      have hin := tk_in (l := l) (p := s.read) (by rw [hk]; decide)
      split at h
      · cases h
      · obtain ⟨b, u, h1, h2⟩ := bind_ok h
        split at h2
        · rename_i hk2
          have hin2 := tk_in (l := l) (p := u.read) (by rw [hk2]; decide)
          cases h2
          have r := run_marks n .inside _ k u h1 hc
          exact ((Mks.next hin (by rw [hk]; decide)).trans ⟨r.le, r.ex⟩).trans ((Mks.next hin2 (by rw [hk2]; decide)).opn _)
        · exact absurd h2 fault_not_ok
    · exact absurd h fault_not_ok
  | n + 1, .inside, s, k, t, h, hc => by
    simp only [run] at h
    split at h
    · cases h
      have q3 := (lay_read s { kind := 1 } (-1)).2.2
      exact Mks.lay (by omega) (by decide : isSt (1 : Int) = false)
    · exact run_marks n .or s k t h hc
structure TEnds (l : List Tk) : Prop where
  pos : 0 < l.length
  last : (tkAt l (l.length - 1)).kind = 10
  only : ∀ p, p < l.length - 1 → (tkAt l p).kind ≠ 10
theorem TEnds.step {l : List Tk} (h : TEnds l) {p : Nat} (hk : (tkAt l p).kind ≠ 10) : p + 1 < l.length := by
  have h1 := tk_in hk
  have : p ≠ l.length - 1 := fun e => hk (by rw [e]; exact h.last)
  omega
theorem tk_mem {l : List Tk} {p : Nat} (h : p < l.length) : tkAt l p ∈ l := by unfold tkAt; rw [List.getD_eq_getElem?_getD, List.getElem?_eq_getElem h]; exact List.getElem_mem _
theorem run_range {l : List Tk} (hl : TEnds l) : ∀ (n : Nat) (m : Md) (s : PS) (k : Int) (t : PS), run l n m s = .ok k t → s.read < l.length → t.read < l.length
  | 0, _, _, _, _, h, _ => by cases h
  | n + 1, .or, s, k, t, h, hr => by
    obtain ⟨a, u, h1, h2⟩ := bind_ok h
    exact run_range hl n _ u k t h2 (run_range hl n _ s a u h1 hr)
  | n + 1, .orL a, s, k, t, h, hr => by
    simp only [run] at h
    split at h
    · rename_i hk
      obtain ⟨b, u, h1, h2⟩ := bind_ok h
      have r := run_range hl n _ s.next b u h1 (hl.step (by rw [hk]; decide))
      exact run_range hl n _ _ k t h2 (by rw [(lay_read u _ _).1]; exact r)
    · cases h; exact hr
  | n + 1, .row, s, k, t, h, hr => by
    obtain ⟨a, u, h1, h2⟩ := bind_ok h
    exact run_range hl n _ u k t h2 (run_range hl n _ s a u h1 hr)
  | n + 1, .rowL a, s, k, t, h, hr => by
    simp only [run] at h
    split at h
    · obtain ⟨b, u, h1, h2⟩ := bind_ok h
      have r := run_range hl n _ s b u h1 hr
      exact run_range hl n _ _ k t h2 (by rw [(lay_read u _ _).1]; exact r)
    · cases h; exact hr
  | n + 1, .post, s, k, t, h, hr => by
    obtain ⟨a, u, h1, h2⟩ := bind_ok h
    exact run_range hl n _ u k t h2 (run_range hl n _ s a u h1 hr)
  | n + 1, .postL a, s, k, t, h, hr => by
    simp only [run] at h
    split at h
    · rename_i hk
      exact run_range hl n _ _ k t h (by show (s.lay _ _).read + 1 < _; rw [(lay_read s _ _).1]; exact hl.step (by rw [hk]; decide))
    · split at h
      · rename_i hk
        exact run_range hl n _ _ k t h (by show (s.lay _ _).read + 1 < _; rw [(lay_read s _ _).1]; exact hl.step (by rw [hk]; decide))
      · cases h; exact hr
  | n + 1, .atom, s, k, t, h, hr => by
    simp only [run] at h
    split at h
    · rename_i hk
      cases h
      rw [(lay_read s.next _ _).1]; exact hl.step (by rw [hk]; decide)
    · split at h
      · rename_i hk
        cases h
        rw [(lay_read s.next _ _).1]; exact hl.step (by rw [hk]; decide)
      · split at h
        · exact run_range hl n _ s k t h hr
        · split at h
          · rename_i hk
            obtain ⟨b, u, h1, h2⟩ := bind_ok h
            cases h2
            rw [(lay_read u _ _).1]; exact run_range hl n _ s.next b u h1 (hl.step (by rw [hk]; decide))
          · split at h
            · rename_i hk
              obtain ⟨b, u, h1, h2⟩ := bind_ok h
              cases h2
              rw [(lay_read u _ _).1]; exact run_range hl n _ s.next b u h1 (hl.step (by rw [hk]; decide))
            · exact absurd h fault_not_ok
  | n + 1, .group, s, k, t, h, hr => by
    simp only [run] at h
    split at h
    · split at h
      · cases h
      · obtain ⟨b, u, h1, h2⟩ := bind_ok h
        split at h2
        · rename_i hk2
          cases h2
          exact hl.step (p := u.read) (by rw [hk2]; decide)
        · exact absurd h2 fault_not_ok
    · exact absurd h fault_not_ok
  | n + 1, .inside, s, k, t, h, hr => by
    simp only [run] at h
    split at h
    · cases h; rw [(lay_read s _ _).1]; exact hr
    · exact run_range hl n _ s k t h hr
def OpnOk (l : List Tk) (s : PS) : Prop := ∀ x ∈ s.opn, ∃ t ∈ l, t.at_ = x
theorem fault_at {l : List Tk} {s : PS} (hr : s.read < l.length) (ho : OpnOk l s) {e p : Int} (h : faultP l s = .bad e p) : ∃ t ∈ l, t.at_ = p := by
  unfold faultP at h
  split at h
  · rename_i q hk hq
    cases h
    exact ho p (List.mem_of_getLast? hq)
  · cases h; exact ⟨_, tk_mem hr, rfl⟩
theorem run_at {l : List Tk} (hl : TEnds l) : ∀ (n : Nat) (m : Md) (s : PS) (e p : Int), run l n m s = .bad e p → s.read < l.length → OpnOk l s → ∃ t ∈ l, t.at_ = p
  | 0, _, _, _, _, h, _, _ => by cases h
  | n + 1, .or, s, e, p, h, hr, ho => by
    rcases bind_bad h with h1 | ⟨a, u, h1, h2⟩
    · exact run_at hl n _ s e p h1 hr ho
    · exact run_at hl n _ u e p h2 (run_range hl n _ s a u h1 hr) (by have := (run_read n _ _ _ _ h1).2.1; unfold OpnOk; rw [this]; exact ho)
  | n + 1, .orL a, s, e, p, h, hr, ho => by
    simp only [run] at h
    split at h
    · rename_i hk
      rcases bind_bad h with h1 | ⟨b, u, h1, h2⟩
      · exact run_at hl n _ s.next e p h1 (hl.step (by rw [hk]; decide)) ho
      · have r := run_range hl n _ s.next b u h1 (hl.step (by rw [hk]; decide))
        have o : u.opn = s.opn := (run_read n _ _ _ _ h1).2.1
        exact run_at hl n _ _ e p h2 (by rw [(lay_read u _ _).1]; exact r) (by unfold OpnOk; rw [(lay_read u _ _).2.1, o]; exact ho)
    · cases h
  | n + 1, .row, s, e, p, h, hr, ho => by
    rcases bind_bad h with h1 | ⟨a, u, h1, h2⟩
    · exact run_at hl n _ s e p h1 hr ho
    · exact run_at hl n _ u e p h2 (run_range hl n _ s a u h1 hr) (by have := (run_read n _ _ _ _ h1).2.1; unfold OpnOk; rw [this]; exact ho)
  | n + 1, .rowL a, s, e, p, h, hr, ho => by
    simp only [run] at h
    split at h
    · rcases bind_bad h with h1 | ⟨b, u, h1, h2⟩
      · exact run_at hl n _ s e p h1 hr ho
      · have r := run_range hl n _ s b u h1 hr
        have o : u.opn = s.opn := (run_read n _ _ _ _ h1).2.1
        exact run_at hl n _ _ e p h2 (by rw [(lay_read u _ _).1]; exact r) (by unfold OpnOk; rw [(lay_read u _ _).2.1, o]; exact ho)
    · cases h
  | n + 1, .post, s, e, p, h, hr, ho => by
    rcases bind_bad h with h1 | ⟨a, u, h1, h2⟩
    · exact run_at hl n _ s e p h1 hr ho
    · exact run_at hl n _ u e p h2 (run_range hl n _ s a u h1 hr) (by have := (run_read n _ _ _ _ h1).2.1; unfold OpnOk; rw [this]; exact ho)
  | n + 1, .postL a, s, e, p, h, hr, ho => by
    simp only [run] at h
    split at h
    · rename_i hk
      exact run_at hl n _ _ e p h (by show (s.lay _ _).read + 1 < _; rw [(lay_read s _ _).1]; exact hl.step (by rw [hk]; decide)) (by unfold OpnOk; show ∀ x ∈ (s.lay _ _).opn, _; rw [(lay_read s _ _).2.1]; exact ho)
    · split at h
      · rename_i hk
        exact run_at hl n _ _ e p h (by show (s.lay _ _).read + 1 < _; rw [(lay_read s _ _).1]; exact hl.step (by rw [hk]; decide)) (by unfold OpnOk; show ∀ x ∈ (s.lay _ _).opn, _; rw [(lay_read s _ _).2.1]; exact ho)
      · cases h
  | n + 1, .atom, s, e, p, h, hr, ho => by
    simp only [run] at h
    split at h
    · cases h
    · split at h
      · cases h
      · split at h
        · exact run_at hl n _ s e p h hr ho
        · split at h
          · rename_i hk
            rcases bind_bad h with h1 | ⟨b, u, h1, h2⟩
            · exact run_at hl n _ s.next e p h1 (hl.step (by rw [hk]; decide)) ho
            · cases h2
          · split at h
            · rename_i hk
              rcases bind_bad h with h1 | ⟨b, u, h1, h2⟩
              · exact run_at hl n _ s.next e p h1 (hl.step (by rw [hk]; decide)) ho
              · cases h2
            · exact fault_at hr ho h
  | n + 1, .group, s, e, p, h, hr, ho => by
    simp only [run] at h
    split at h
    · rename_i hk
      have ho2 : OpnOk l { s.next with opn := s.opn ++ [(tkAt l s.read).at_] } := fun x hx => by
        rcases List.mem_append.1 hx with h | h
        · exact ho x h
        · rw [List.mem_singleton] at h; exact ⟨_, tk_mem hr, h.symm⟩
      split at h
      · cases h; exact ⟨_, tk_mem hr, rfl⟩
      · rcases bind_bad h with h1 | ⟨b, u, h1, h2⟩
        · exact run_at hl n _ _ e p h1 (hl.step (p := s.read) (by rw [hk]; decide)) ho2
        · have r := run_range hl n _ _ b u h1 (hl.step (p := s.read) (by rw [hk]; decide))
          have o : u.opn = _ := (run_read n _ _ _ _ h1).2.1
          split at h2
          · cases h2
          · exact fault_at r (by unfold OpnOk; rw [o]; exact ho2) h2
    · exact fault_at hr ho h
  | n + 1, .inside, s, e, p, h, hr, ho => by
    simp only [run] at h
    split at h
    · cases h
    · exact run_at hl n _ s e p h hr ho
theorem parse_at {l : List Tk} (hl : TEnds l) {e p : Int} (h : parseP l = .bad e p) : ∃ t ∈ l, t.at_ = p := by
  rcases bind_bad h with h1 | ⟨a, u, h1, h2⟩
  · exact run_at hl _ _ {} e p h1 hl.pos (fun x hx => by simp at hx)
  · have r := run_range hl _ _ {} a u h1 hl.pos
    have o : u.opn = [] := (run_read _ _ _ _ _ h1).2.1
    split at h2
    · split at h2
      · cases h2; exact ⟨_, tk_mem r, rfl⟩
      · cases h2
    · exact fault_at r (fun x hx => by rw [o] at hx; simp at hx) h2
theorem parse_marks {l : List Tk} (hl : TEnds l) {k : Int} {t : PS} (h : parseP l = .ok k t) : ∃ P : List (Nd × Int), t.nodes = P.map (·.1) ∧ t.ats = P.map (·.2) ∧ (∀ x ∈ P, isSt x.1.kind = false → x.2 = -1) ∧ P.filterMap mkN = l.filterMap stT := by
  obtain ⟨a, u, h1, h2⟩ := bind_ok h
  have r := run_range hl _ _ {} a u h1 hl.pos
  split at h2
  · rename_i hk
    split at h2
    · cases h2
    · cases h2
      obtain ⟨-, P, p1, p2, p3, p4⟩ := run_marks _ _ {} k u h1 (by omega)
      refine ⟨P, by show u.nodes = _; simpa using p1, by show u.ats = _; simpa using p2, p3, ?_⟩
      rw [p4]
      show sts l 0 u.read = _
      have hlast : u.read = l.length - 1 := by
        rcases Nat.lt_or_ge u.read (l.length - 1) with h | h
        · exact absurd hk (hl.only _ h)
        · omega
      have e1 : l.filterMap stT = sts l 0 l.length := by unfold sts; rw [List.drop_zero, Nat.sub_zero, List.take_length]
      have e2 : sts l (l.length - 1) l.length = [] := by
        have hp := hl.pos
        have := sts_one (l := l) (p := l.length - 1) (by omega)
        rw [show l.length - 1 + 1 = l.length by omega] at this
        rw [this]; unfold stT; rw [hl.last]; rfl
      rw [hlast, e1, sts_add (l := l) (i := 0) (j := l.length - 1) (k := l.length) (Nat.zero_le _) (by omega), e2, List.append_nil]
  · exact absurd h2 fault_not_ok
theorem parse_not_out (l : List Tk) : parseP l ≠ .out := by
  intro h
  rcases bind_out h with h1 | ⟨a, u, h1, h2⟩
  · exact run_fuel _ _ {} (by unfold fuelP rankM; simp) h1
  · split at h2
    · split at h2 <;> cases h2
    · exact fault_not_out h2
theorem dv_kinds {l : List Tk} {m : DM} {a b : Nat} {D : List Nd} {A : List Int} (h : Dv l m a b D A) : a ≤ b ∧ ∀ q, a ≤ q → q < b → (tkAt l q).kind ≠ 10 := by
  have one : ∀ {a : Nat}, (tkAt l a).kind ≠ 10 → ∀ q, a ≤ q → q < a + 1 → (tkAt l q).kind ≠ 10 := fun {a} hk q h1 h2 => by
    obtain rfl : q = a := by omega
    exact hk
  induction h with
  | cls h => exact ⟨Nat.le_succ _, one (by omega)⟩
  | text h => exact ⟨Nat.le_succ _, one (by omega)⟩
  | brk h d ih => exact ih
  | frame h d ih =>
    refine ⟨by omega, fun q h1 h2 => ?_⟩
    rcases Nat.lt_or_ge _ q with h3 | h3
    · exact ih.2 q h3 h2
    · exact one (by omega) q h1 (by omega)
  | group h d h4 ih =>
    refine ⟨by omega, fun q h1 h2 => ?_⟩
    rcases Nat.lt_or_ge _ q with h3 | h3
    · rcases Nat.lt_or_ge q _ with h5 | h5
      · exact ih.2 q h3 h5
      · exact one (by omega) q h5 h2
    · exact one (by omega) q h1 (by omega)
  | none h => exact ⟨Nat.le_refl _, fun q h1 h2 => by omega⟩
  | some h d ih => exact ih
  | post0 d ih => exact ih
  | star d h ih =>
    refine ⟨by omega, fun q h1 h2 => ?_⟩
    rcases Nat.lt_or_ge q _ with h3 | h3
    · exact ih.2 q h1 h3
    · exact one (by omega) q h3 h2
  | rep d h ih =>
    refine ⟨by omega, fun q h1 h2 => ?_⟩
    rcases Nat.lt_or_ge q _ with h3 | h3
    · exact ih.2 q h1 h3
    · exact one (by omega) q h3 h2
  | row0 d ih => exact ih
  | row d h e ih ih2 =>
    refine ⟨by omega, fun q h1 h2 => ?_⟩
    rcases Nat.lt_or_ge q _ with h3 | h3
    · exact ih.2 q h1 h3
    · exact ih2.2 q h3 h2
  | or0 d ih => exact ih
  | or d h e ih ih2 =>
    refine ⟨by omega, fun q h1 h2 => ?_⟩
    rcases Nat.lt_or_ge q _ with h3 | h3
    · exact ih.2 q h1 h3
    · rcases Nat.lt_or_ge _ q with h5 | h5
      · exact ih2.2 q h5 h2
      · exact one (by omega) q h3 (by omega)
theorem tk_over {l : List Tk} {p : Nat} (h : l.length ≤ p) : tkAt l p = tkEnd := by unfold tkAt; rw [List.getD_eq_getElem?_getD, List.getElem?_eq_none h]; rfl
theorem may_ten {last : Int} {o : Nat} (h : mayK last 10 o) : o = 0 := by
  unfold mayK at h
  have hb : begK 10 = false := rfl
  split at h
  · omega
  · split at h
    · rw [hb] at h; cases h
    · split at h
      · rcases h with h | h
        · rw [hb] at h; cases h
        · omega
      · rcases h with h | h | h | h | ⟨h, _⟩ | ⟨_, h⟩
        · rw [hb] at h; cases h
        · omega
        · omega
        · omega
        · omega
        · exact h
theorem flt_lt {l : List Tk} (he : TEnds l) {e p : Int} {f : Nat} (h : Flt l 0 e p f) : f < l.length := by
  rcases h.what with ⟨_, h3, _⟩ | ⟨hn, _⟩
  · exact tk_in (by rw [h3]; decide)
  · rcases Nat.lt_or_ge f l.length with hlt | hge
    · exact hlt
    · exfalso
      have hpos := he.pos
      have h10 : ∀ q, l.length - 1 ≤ q → (tkAt l q).kind = 10 := fun q hq => by
        rcases Nat.lt_or_ge q l.length with h | h
        · rw [show q = l.length - 1 by omega]; exact he.last
        · rw [tk_over h]; rfl
      have hm := (h.seg (l.length - 1) (Nat.zero_le _) (by omega)).1
      unfold mayAt at hm
      rw [he.last] at hm
      have ho := may_ten hm
      have hall : ∀ j, opsL l (l.length - 1 + j) = opsL l (l.length - 1) := fun j => by
        induction j with
        | zero => rfl
        | succ j ih =>
          have hk := h10 (l.length - 1 + j) (by omega)
          rw [← Nat.add_assoc, opsL_same (by omega) (by omega), ih]
      apply hn
      unfold mayAt
      have e1 : lastK l f = 10 := by
        unfold lastK; rw [if_neg (by omega)]; exact h10 _ (by omega)
      have e2 : opsL l f = opsL l (l.length - 1) := by
        have := hall (f - (l.length - 1))
        rwa [show l.length - 1 + (f - (l.length - 1)) = f by omega] at this
      rw [e1, h10 f (by omega), e2, ho]
      exact (may_end (by unfold endK; omega)).2 (.inr (.inr (.inr (.inr (.inr ⟨rfl, rfl⟩)))))
def RefP (l : List Tk) : PR → Prop
  | .ok k t => Seg l 0 l.length ∧ ∃ D A, Dv l .or 0 (l.length - 1) D A ∧ t.nodes = D ∧ t.ats = A ∧ D.length ≤ 4096
  | .bad e p => (e = 9 ∧ p = (tkAt l (l.length - 1)).at_ ∧ Seg l 0 l.length ∧ ∃ D A, Dv l .or 0 (l.length - 1) D A ∧ 4096 < D.length) ∨ ∃ f, f < l.length ∧ Flt l 0 e p f
  | .out => False
theorem parse_ref {l : List Tk} (he : TEnds l) : RefP l (parseP l) := by
  have hpos := he.pos
  have hM := run_may (l := l) (10 * l.length + 10) .or {} ⟨rfl, Nat.zero_le _, .inl (.inl rfl)⟩
  have hO := run_fuel (l := l) (10 * l.length + 10) .or {} (by show 10 * (l.length - 0) + 7 ≤ _; omega)
  unfold parseP
  cases hr : run l (10 * l.length + 10) .or {} with
  | out => exact absurd hr hO
  | bad e p =>
    rw [hr] at hM
    obtain ⟨f, hf⟩ := hM
    exact .inr ⟨f, flt_lt he hf, hf⟩
  | ok k u =>
    rw [hr] at hM
    obtain ⟨hseg, -, ho, hf, hend, hb, h5, h6, h7⟩ := hM
    have hu : u.opn = [] := (run_read _ _ _ _ _ hr).2.1
    have h0 : (opsL l u.read).length = 0 := by rw [← ho, hu]; rfl
    obtain ⟨D, A, d⟩ := (run_dv _ _ _ _ _ hr : RunDv l {} k u .or) [] [] 0 ⟨rfl, fun _ => ⟨rfl, rfl⟩⟩
    have hkd := dv_kinds d.dv
    show RefP l (if (tkAt l u.read).kind = 10 then (if 4096 < u.count then .bad 9 (tkAt l u.read).at_ else .ok k u.next) else faultP l u)
    by_cases h10 : (tkAt l u.read).kind = 10
    · rw [if_pos h10]
      have hlast : u.read = l.length - 1 := by
        rcases Nat.lt_or_ge u.read (l.length - 1) with h | h
        · exact absurd h10 (he.only _ h)
        · rcases Nat.lt_or_ge (l.length - 1) u.read with h2 | h2
          · exact absurd he.last (hkd.2 _ (Nat.zero_le _) h2)
          · omega
      have hm : mayAt l u.read := (may_end hend).2 (.inr (.inr (.inr (.inr (.inr ⟨h10, h0⟩)))))
      have e1 := opsL_same (l := l) (p := u.read) (by omega) (by omega)
      have hs : Seg l 0 l.length := by
        have := hseg.trans (Seg.one hm (by rw [e1]; omega))
        rwa [hlast, show l.length - 1 + 1 = l.length by omega] at this
      have hd := d.dv
      have hc := d.cnt
      rw [hlast] at hd
      rw [Nat.zero_add] at hc
      by_cases h4 : 4096 < u.count
      · rw [if_pos h4]
        exact .inl ⟨rfl, by rw [hlast], hs, D, A, hd, by omega⟩
      · rw [if_neg h4]
        obtain ⟨e2, e3⟩ := d.nd (by omega)
        refine ⟨hs, D, A, hd, ?_, ?_, by omega⟩
        · show u.nodes = D
          rw [e2, List.nil_append]
          exact map_mv_zero D
        · show u.ats = A
          rw [e3, List.nil_append]
    · rw [if_neg h10]
      have hn : ¬ mayAt l u.read := fun hm => by
        rcases (may_end hend).1 hm with h | h | h | h | ⟨_, h⟩ | ⟨h, _⟩
        · rw [h] at hb; cases hb
        · exact h5 h
        · exact h6 h
        · exact h7 h
        · omega
        · exact h10 h
      have q := fault_res (l := l) (m := .or) (s := u) ho hn
      cases hq : faultP l u with
      | ok k2 t2 => exact absurd hq fault_not_ok
      | out => exact absurd hq fault_not_out
      | bad e p =>
        rw [hq] at q
        obtain ⟨f, hf2⟩ := q
        have hf3 : Flt l 0 e p f := ⟨Nat.zero_le _, hseg.trans hf2.seg, hf2.what⟩
        exact .inr ⟨f, flt_lt he hf3, hf3⟩
def opsI (l : List Tk) : Nat → List Nat
  | 0 => []
  | p + 1 => if (tkAt l p).kind = 3 then opsI l p ++ [p] else if (tkAt l p).kind = 4 then (opsI l p).dropLast else opsI l p
theorem opsL_map (l : List Tk) : ∀ p, opsL l p = (opsI l p).map fun i => (tkAt l i).at_
  | 0 => rfl
  | p + 1 => by
    rw [opsL, opsI, opsL_map l p]
    split
    · rw [List.map_append]; rfl
    · split
      · rw [List.map_dropLast]
      · rfl
theorem opsI_len (l : List Tk) (p : Nat) : (opsL l p).length = (opsI l p).length := by rw [opsL_map, List.length_map]
def Unm (l : List Tk) (i p : Nat) : Prop := ∀ k, i < k → k ≤ p → 0 < nest l i (k - i)
theorem gd_left {L : List Nat} {x r : Nat} (h : r < L.length) : (L ++ [x]).getD r 0 = L.getD r 0 := by
  rw [List.getD_eq_getElem?_getD, List.getD_eq_getElem?_getD, List.getElem?_append_left h]
theorem gd_last {L : List Nat} {x : Nat} : (L ++ [x]).getD L.length 0 = x := by
  rw [List.getD_eq_getElem?_getD, List.getElem?_append_right (Nat.le_refl _), Nat.sub_self]; rfl
theorem gd_drop {L : List Nat} {r : Nat} (h : r < L.length - 1) : L.dropLast.getD r 0 = L.getD r 0 := by
  rw [List.getD_eq_getElem?_getD, List.getD_eq_getElem?_getD, List.getElem?_dropLast, if_pos h]
theorem gd_mem {L : List Nat} {i : Nat} : i ∈ L ↔ ∃ r, r < L.length ∧ L.getD r 0 = i := by
  rw [List.mem_iff_getElem]
  constructor
  · rintro ⟨r, h, e⟩; exact ⟨r, h, by rw [List.getD_eq_getElem?_getD, List.getElem?_eq_getElem h]; exact e⟩
  · rintro ⟨r, h, e⟩; exact ⟨r, h, by rw [List.getD_eq_getElem?_getD, List.getElem?_eq_getElem h] at e; exact e⟩
structure OpI (l : List Tk) (p : Nat) (L : List Nat) : Prop where
  lt : ∀ r, r < L.length → L.getD r 0 < p
  op : ∀ r, r < L.length → (tkAt l (L.getD r 0)).kind = 3
  nest : ∀ r, r < L.length → nest l (L.getD r 0) (p - L.getD r 0) = (L.length : Int) - r
  unm : ∀ r, r < L.length → Unm l (L.getD r 0) p
  all : ∀ i, i < p → (tkAt l i).kind = 3 → Unm l i p → i ∈ L
  up : ∀ r s, r < s → s < L.length → L.getD r 0 < L.getD s 0
theorem nest_step (l : List Tk) {i p : Nat} (h : i ≤ p) : nest l i (p + 1 - i) = nest l i (p - i) + stpK (tkAt l p).kind := by
  rw [show p + 1 - i = (p - i) + 1 by omega, nest, show i + (p - i) = p by omega]
theorem Unm.less {l : List Tk} {i p : Nat} (h : Unm l i (p + 1)) : Unm l i p := fun k h1 h2 => h k h1 (by omega)
theorem Unm.more {l : List Tk} {i p : Nat} (h : Unm l i p) (hp : 0 < nest l i (p + 1 - i)) : Unm l i (p + 1) := fun k h1 h2 => by
  rcases Nat.lt_or_ge k (p + 1) with h3 | h3
  · exact h k h1 (by omega)
  · rw [show k = p + 1 by omega]; exact hp
theorem opsI_spec {l : List Tk} : ∀ p, (∀ j, j < p → (tkAt l j).kind = 4 → 0 < (opsI l j).length) → OpI l p (opsI l p)
  | 0, _ => ⟨fun r h => absurd h (Nat.not_lt_zero r), fun r h => absurd h (Nat.not_lt_zero r), fun r h => absurd h (Nat.not_lt_zero r), fun r h => absurd h (Nat.not_lt_zero r), fun i h => absurd h (Nat.not_lt_zero i), fun r s _ h => absurd h (Nat.not_lt_zero s)⟩
  | p + 1, hc => by
    have q := opsI_spec p fun j hj => hc j (by omega)
    have h4 := hc p (Nat.lt_succ_self p)
    rw [opsI]
    generalize opsI l p = L at *
    by_cases k3 : (tkAt l p).kind = 3
    · rw [if_pos k3]
      have hs : stpK (tkAt l p).kind = 1 := by rw [k3]; rfl
      have old : ∀ r, r < L.length → nest l (L.getD r 0) (p + 1 - L.getD r 0) = (L.length : Int) - r + 1 := fun r hr => by
        rw [nest_step l (Nat.le_of_lt (q.lt r hr)), q.nest r hr, hs]
      have own : nest l p (p + 1 - p) = 1 := by rw [nest_step l (Nat.le_refl _), Nat.sub_self, hs]; rfl
      have cs : ∀ r, r < (L ++ [p]).length → r < L.length ∨ r = L.length := fun r hr => by rw [List.length_append] at hr; simp only [List.length_cons, List.length_nil] at hr; omega
      have hlen : ((L ++ [p]).length : Int) = (L.length : Int) + 1 := by rw [List.length_append]; rfl
      refine ⟨fun r hr => ?_, fun r hr => ?_, fun r hr => ?_, fun r hr => ?_, fun i hi hk hu => ?_, fun r s hrs hs => ?_⟩
      · rcases cs r hr with h | rfl
        · rw [gd_left h]; have := q.lt r h; omega
        · rw [gd_last]; omega
      · rcases cs r hr with h | rfl
        · rw [gd_left h]; exact q.op r h
        · rw [gd_last]; exact k3
      · rw [hlen]
        rcases cs r hr with h | rfl
        · rw [gd_left h, old r h]; omega
        · rw [gd_last, own]; omega
      · rcases cs r hr with h | rfl
        · rw [gd_left h]; exact (q.unm r h).more (by rw [old r h]; omega)
        · rw [gd_last]
          intro k h1 h2
          rw [show k = p + 1 by omega, own]; omega
      · rcases Nat.lt_or_ge i p with h | h
        · exact List.mem_append_left _ (q.all i h hk hu.less)
        · rw [show i = p by omega]; exact List.mem_append_right _ (List.mem_singleton.2 rfl)
      · rcases cs s hs with h | rfl
        · rw [gd_left h, gd_left (by omega)]; exact q.up r s hrs h
        · rw [gd_last, gd_left hrs]; exact q.lt r hrs
    · rw [if_neg k3]
      by_cases k4 : (tkAt l p).kind = 4
      · rw [if_pos k4]
        have hpos := h4 k4
        have hs : stpK (tkAt l p).kind = -1 := by rw [k4]; rfl
        have old : ∀ r, r < L.length → nest l (L.getD r 0) (p + 1 - L.getD r 0) = (L.length : Int) - r - 1 := fun r hr => by
          rw [nest_step l (Nat.le_of_lt (q.lt r hr)), q.nest r hr, hs]; omega
        have hlen : L.dropLast.length = L.length - 1 := List.length_dropLast
        refine ⟨fun r hr => ?_, fun r hr => ?_, fun r hr => ?_, fun r hr => ?_, fun i hi hk hu => ?_, fun r s hrs hs => ?_⟩
        · rw [hlen] at hr; rw [gd_drop hr]; have := q.lt r (by omega); omega
        · rw [hlen] at hr; rw [gd_drop hr]; exact q.op r (by omega)
        · rw [hlen] at hr ⊢; rw [gd_drop hr, old r (by omega)]; omega
        · rw [hlen] at hr; rw [gd_drop hr]; exact (q.unm r (by omega)).more (by rw [old r (by omega)]; omega)
        · have hip : i < p := by
            rcases Nat.lt_or_ge i p with h | h
            · exact h
            · rw [show i = p by omega] at hk; omega
          obtain ⟨r, hr, e⟩ := gd_mem.1 (q.all i hip hk hu.less)
          rcases Nat.lt_or_ge r (L.length - 1) with h | h
          · exact gd_mem.2 ⟨r, by rw [hlen]; exact h, by rw [gd_drop h]; exact e⟩
          · exfalso
            have h1 := hu (p + 1) (by omega) (Nat.le_refl _)
            rw [← e, old r hr] at h1
            omega
        · rw [hlen] at hs; rw [gd_drop hs, gd_drop (by omega)]; exact q.up r s hrs (by omega)
      · rw [if_neg k4]
        have hs : stpK (tkAt l p).kind = 0 := stp_no k3 k4
        have old : ∀ r, r < L.length → nest l (L.getD r 0) (p + 1 - L.getD r 0) = (L.length : Int) - r := fun r hr => by
          rw [nest_step l (Nat.le_of_lt (q.lt r hr)), q.nest r hr, hs]; omega
        refine ⟨fun r hr => by have := q.lt r hr; omega, q.op, old, fun r hr => (q.unm r hr).more (by rw [old r hr]; omega), fun i hi hk hu => ?_, q.up⟩
        rcases Nat.lt_or_ge i p with h | h
        · exact q.all i h hk hu.less
        · rw [show i = p by omega] at hk; exact absurd hk k3
theorem may_close {l : List Tk} {p : Nat} (h : mayAt l p) (h4 : (tkAt l p).kind = 4) : 0 < (opsI l p).length := by
  rw [← opsI_len]
  unfold mayAt mayK at h
  have hb : begK (tkAt l p).kind = false := by rw [h4]; rfl
  split at h
  · omega
  · split at h
    · rw [hb] at h; cases h
    · split at h
      · rename_i h3
        unfold lastK at h3
        split at h3
        · omega
        · rename_i hp
          have e := opsL_open (l := l) (p := p - 1) h3
          rw [show p - 1 + 1 = p by omega] at e
          rw [e, List.length_append]; simp
      · rcases h with h | h | h | h | ⟨_, h⟩ | ⟨h, _⟩
        · rw [hb] at h; cases h
        · omega
        · omega
        · omega
        · exact h
        · omega
theorem seg_spec {l : List Tk} {p : Nat} (h : ∀ j, j < p → mayAt l j) : OpI l p (opsI l p) := opsI_spec p fun j hj h4 => may_close (h j hj) h4
structure IsM (l : List Tk) (e i k : Nat) : Prop where
  lo : i ≤ k
  hi : k ≤ e
  no : ∀ j, i ≤ j → j < k → nest l i (j + 1 - i) ≠ 0
  at_ : k < e → nest l i (k + 1 - i) = 0
theorem IsM.one {l : List Tk} {e i k j : Nat} (h : IsM l e i k) (g : IsM l e i j) : k = j := by
  rcases Nat.lt_trichotomy k j with h1 | h1 | h1
  · exact absurd (h.at_ (by have := g.hi; omega)) (g.no k h.lo h1)
  · exact h1
  · exact absurd (g.at_ (by have := h.hi; omega)) (h.no j g.lo h1)
theorem dv_match {l : List Tk} {a b e : Nat} {D : List Nd} {A : List Int} (h : Dv l .group a b D A) (he : b ≤ e) : a < b ∧ IsM l e a (b - 1) := by
  obtain ⟨n, rfl, q⟩ := dv_nest h
  have hn := q.some (by intro h; cases h)
  refine ⟨by omega, by omega, by omega, fun j h1 h2 => ?_, fun _ => ?_⟩
  · have := q.grp rfl (j + 1 - a) (by omega) (by omega)
    omega
  · rw [show a + n - 1 + 1 - a = n by omega]; exact q.sum
theorem unm_match {l : List Tk} {i f k : Nat} (hi : i < f) (h3 : (tkAt l i).kind = 3) (h : IsM l f i k) : k = f ↔ Unm l i f := by
  have h1 : nest l i 1 = 1 := by rw [nest_succ, h3]; rfl
  constructor
  · intro e
    subst e
    have key : ∀ n, i + 1 + n ≤ k → 0 < nest l i (1 + n) := fun n => by
      induction n with
      | zero => intro _; rw [Nat.add_zero, h1]; omega
      | succ n ih =>
        intro hn
        have h2 := ih (by omega)
        have h4 := h.no (i + 1 + n) (by omega) (by omega)
        rw [show i + 1 + n + 1 - i = 1 + (n + 1) by omega] at h4
        have h5 : nest l i (1 + (n + 1)) = nest l i (1 + n) + stpK (tkAt l (i + (1 + n))).kind := by rw [show 1 + (n + 1) = (1 + n) + 1 by omega, nest]
        have h6 : -1 ≤ stpK (tkAt l (i + (1 + n))).kind := by unfold stpK; split <;> (try split) <;> omega
        omega
    intro j hj1 hj2
    have := key (j - i - 1) (by omega)
    rwa [show 1 + (j - i - 1) = j - i by omega] at this
  · intro hu
    rcases Nat.lt_or_ge k f with hk | hk
    · have h2 := h.at_ hk
      have h4 := hu (k + 1) (by have := h.lo; omega) (by omega)
      omega
    · have := h.hi; omega
def topO (l : List Tk) (a i : Nat) : Prop := (tkAt l i).kind = 5 ∧ nest l a (i - a) = 0
theorem row_top {l : List Tk} {a b : Nat} {D : List Nd} {A : List Int} (h : Dv l .row a b D A) : a < b ∧ ∀ i, a ≤ i → i < b → ¬ topO l a i := by
  obtain ⟨n, rfl, q⟩ := dv_nest h
  refine ⟨by have := q.some (by intro h; cases h); omega, fun i h1 h2 ⟨h5, h0⟩ => ?_⟩
  have := q.bar trivial (i - a) (by omega) (by rw [show a + (i - a) = i by omega]; exact h5)
  omega
theorem or_top {l : List Tk} {a c : Nat} {D : List Nd} {A : List Int} (h : Dv l .or a c D A) : a < c ∧ ((Dv l .row a c D A ∧ ∀ i, a ≤ i → i < c → ¬ topO l a i) ∨
    ∃ b D1 A1 E B, a < b ∧ b < c ∧ Dv l .or a b D1 A1 ∧ Dv l .row (b + 1) c E B ∧ D = pairL 5 D1 E ∧ A = A1 ++ B ++ [-1] ∧ topO l a b ∧ ∀ i, b < i → i < c → ¬ topO l a i) := by
  cases h with
  | or0 d => exact ⟨(row_top d).1, .inl ⟨d, (row_top d).2⟩⟩
  | @or _ b _ D1 E A1 B d h5 e =>
    obtain ⟨n, rfl, q⟩ := dv_nest d
    have hn := q.some (by intro h; cases h)
    obtain ⟨hlt, hno⟩ := row_top e
    refine ⟨by omega, .inr ⟨a + n, D1, A1, E, B, by omega, by omega, d, e, rfl, rfl, ⟨h5, by rw [show a + n - a = n by omega]; exact q.sum⟩, fun i h1 h2 ⟨k5, k0⟩ => hno i (by omega) h2 ⟨k5, ?_⟩⟩⟩
    have e1 : i - a = n + (1 + (i - (a + n + 1))) := by omega
    rw [e1, nest_add, q.sum, Nat.add_comm 1, nest_succ, stp_no (by omega) (by omega)] at k0
    omega
theorem dv_post {l : List Tk} {m : DM} {a b : Nat} {D : List Nd} {A : List Int} (h : Dv l m a b D A) (hm : m = .post) : ∃ c E B, Dv l .atom a c E B ∧ a < c ∧ c ≤ b ∧ ∀ q, c ≤ q → q < b → (tkAt l q).kind = 6 ∨ (tkAt l q).kind = 7 := by
  induction h with
  | post0 d _ =>
    obtain ⟨n, rfl, q⟩ := dv_nest d
    have hn := q.some (by intro h; cases h)
    exact ⟨_, _, _, d, by omega, Nat.le_refl _, fun q h1 h2 => by omega⟩
  | star d h ih =>
    obtain ⟨c, E, B, h1, h2, h3, h4⟩ := ih rfl
    refine ⟨c, E, B, h1, h2, by omega, fun q k1 k2 => ?_⟩
    rcases Nat.lt_or_ge q _ with k3 | k3
    · exact h4 q k1 k3
    · rw [show q = _ from Nat.le_antisymm (by omega) k3]; exact .inl h
  | rep d h ih =>
    obtain ⟨c, E, B, h1, h2, h3, h4⟩ := ih rfl
    refine ⟨c, E, B, h1, h2, by omega, fun q k1 k2 => ?_⟩
    rcases Nat.lt_or_ge q _ with k3 | k3
    · exact h4 q k1 k3
    · rw [show q = _ from Nat.le_antisymm (by omega) k3]; exact .inr h
  | _ => cases hm
inductive Rst (l : List Tk) (c : Nat) (D : List Nd) (A : List Int) : Nat → List Nd → List Int → Prop where
  | done : Rst l c D A c D A
  | more {b e : Nat} {D1 E : List Nd} {A1 B : List Int} (h : begK (tkAt l b).kind = true) (p : Dv l .post b e E B) (r : Rst l c D A e (pairL 4 D1 E) (A1 ++ B ++ [-1])) : Rst l c D A b D1 A1
theorem Rst.snoc {l : List Tk} {b c : Nat} {D E : List Nd} {A B : List Int} (hb : begK (tkAt l b).kind = true) (p : Dv l .post b c E B) : ∀ {x : Nat} {X : List Nd} {Y : List Int}, Rst l b D A x X Y → Rst l c (pairL 4 D E) (A ++ B ++ [-1]) x X Y := fun h => by
  induction h with
  | done => exact .more hb p .done
  | more h q r ih => exact .more h q ih
theorem dv_row {l : List Tk} {m : DM} {a c : Nat} {D : List Nd} {A : List Int} (h : Dv l m a c D A) (hm : m = .row) : ∃ b E B, Dv l .post a b E B ∧ Rst l c D A b E B := by
  induction h with
  | row0 d _ => exact ⟨_, _, _, d, .done⟩
  | row d h e ih _ =>
    obtain ⟨b, E, B, p, r⟩ := ih rfl
    exact ⟨b, E, B, p, r.snoc h e⟩
  | _ => cases hm
theorem Rst.le {l : List Tk} {c : Nat} {D : List Nd} {A : List Int} {x : Nat} {X : List Nd} {Y : List Int} (h : Rst l c D A x X Y) : x ≤ c := by
  induction h with
  | done => exact Nat.le_refl _
  | more h p r ih =>
    have := (dv_kinds p).1
    omega
theorem dv_group {l : List Tk} {a b : Nat} {D : List Nd} {A : List Int} (h : Dv l .group a b D A) : (tkAt l a).kind = 3 ∧ (tkAt l (b - 1)).kind = 4 ∧ ((b = a + 2 ∧ D = [{ kind := 1 }] ∧ A = [-1]) ∨ (a + 2 < b ∧ Dv l .or (a + 1) (b - 1) D A)) := by
  cases h with
  | @group _ b D A h3 d h4 =>
    refine ⟨h3, by rw [Nat.add_sub_cancel]; exact h4, ?_⟩
    cases d with
    | none h => exact .inl ⟨rfl, rfl, rfl⟩
    | some h d => exact .inr ⟨by have := (or_top d).1; omega, by rw [Nat.add_sub_cancel]; exact d⟩
theorem dv_last {l : List Tk} {a b : Nat} {D : List Nd} {A : List Int} (h : Dv l .atom a b D A) : (tkAt l (b - 1)).kind ≠ 6 ∧ (tkAt l (b - 1)).kind ≠ 7 := by
  cases h with
  | cls h => rw [Nat.add_sub_cancel]; omega
  | text h => rw [Nat.add_sub_cancel]; omega
  | brk h d => have := (dv_group d).2.1; omega
  | frame h d => have := (dv_group d).2.1; omega
theorem dv_post_last {l : List Tk} {a b : Nat} {D : List Nd} {A : List Int} (h : Dv l .post a b D A) :
    (∃ E B, a + 1 < b ∧ Dv l .post a (b - 1) E B ∧ (((tkAt l (b - 1)).kind = 6 ∧ D = wrapL 6 0 0 E) ∨ ((tkAt l (b - 1)).kind = 7 ∧ D = wrapL 7 (tkAt l (b - 1)).lo (tkAt l (b - 1)).hi E)) ∧ A = B ++ [(tkAt l (b - 1)).at_]) ∨
    ((tkAt l (b - 1)).kind ≠ 6 ∧ (tkAt l (b - 1)).kind ≠ 7 ∧ Dv l .atom a b D A) := by
  have lt : ∀ {x y : Nat} {X : List Nd} {Y : List Int}, Dv l .post x y X Y → x < y := fun d => by
    obtain ⟨n, rfl, q⟩ := dv_nest d
    have := q.some (by intro h; cases h)
    omega
  cases h with
  | post0 d => exact .inr ⟨(dv_last d).1, (dv_last d).2, d⟩
  | star d h => exact .inl ⟨_, _, by have := lt d; omega, by rw [Nat.add_sub_cancel]; exact d, by rw [Nat.add_sub_cancel]; exact .inl ⟨h, rfl⟩, by rw [Nat.add_sub_cancel]⟩
  | rep d h => exact .inl ⟨_, _, by have := lt d; omega, by rw [Nat.add_sub_cancel]; exact d, by rw [Nat.add_sub_cancel]; exact .inr ⟨h, rfl⟩, by rw [Nat.add_sub_cancel]⟩
end Go.Proofs.YtcgjmnhmhiddkaaGreatDoor
