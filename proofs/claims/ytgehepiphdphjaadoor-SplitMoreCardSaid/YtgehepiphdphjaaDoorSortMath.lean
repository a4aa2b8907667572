/- A stable sort by keys, as positions: what is swapped, rotated and merged, and that the outcome is sorted by key, those of one key as they came. -/
import Derived.Test.YtgehepiphdphjaaDoorRows
namespace Go.Proofs.YtgehepiphdphjaaDoor
set_option linter.unusedVariables false

/-! A row is told by its ghost 'd': position i holds what stood at position 'd i' when the sort began. -/
section
variable (key : Nat → Nat)
/-- Of two places at the beginning: the one's key is less, or as great and it stood ahead. -/
def Lt (x y : Nat) : Prop := key x < key y ∨ (key x = key y ∧ x < y)
theorem Lt.trans {key : Nat → Nat} {x y z : Nat} (h : Lt key x y) (k : Lt key y z) : Lt key x z := by unfold Lt at *; omega
theorem Lt.le {key : Nat → Nat} {x y : Nat} (h : Lt key x y) : key x ≤ key y := by unfold Lt at *; omega

def Sd (a b : Nat) (d : Nat → Nat) : Prop := ∀ i j, a ≤ i → i < j → j < b → Lt key (d i) (d j)
end

/-- Between a and b things have moved, and nowhere else. -/
structure Mv (a b : Nat) (d d' : Nat → Nat) : Prop where
  out : ∀ i, (i < a ∨ b ≤ i) → d' i = d i
  back : ∀ i, a ≤ i → i < b → ∃ j, a ≤ j ∧ j < b ∧ d' i = d j
  fwd : ∀ i, a ≤ i → i < b → ∃ j, a ≤ j ∧ j < b ∧ d' j = d i
theorem Mv.refl (a b : Nat) (d : Nat → Nat) : Mv a b d d := ⟨fun _ _ => rfl, fun i h1 h2 => ⟨i, h1, h2, rfl⟩, fun i h1 h2 => ⟨i, h1, h2, rfl⟩⟩
theorem Mv.trans {a b : Nat} {d d' d'' : Nat → Nat} (h : Mv a b d d') (k : Mv a b d' d'') : Mv a b d d'' :=
  ⟨fun i hi => (k.out i hi).trans (h.out i hi), fun i h1 h2 => by
    obtain ⟨j, j1, j2, e⟩ := k.back i h1 h2
    obtain ⟨l, l1, l2, e2⟩ := h.back j j1 j2
    exact ⟨l, l1, l2, e.trans e2⟩, fun i h1 h2 => by
    obtain ⟨j, j1, j2, e⟩ := h.fwd i h1 h2
    obtain ⟨l, l1, l2, e2⟩ := k.fwd j j1 j2
    exact ⟨l, l1, l2, e2.trans e⟩⟩
theorem Mv.wide {a b a' b' : Nat} {d d' : Nat → Nat} (h : Mv a b d d') (ha : a' ≤ a) (hb : b ≤ b') : Mv a' b' d d' :=
  ⟨fun i hi => h.out i (by omega), fun i h1 h2 => by
    by_cases e : a ≤ i ∧ i < b
    · obtain ⟨j, j1, j2, e2⟩ := h.back i e.1 e.2
      exact ⟨j, by omega, by omega, e2⟩
    · exact ⟨i, h1, h2, h.out i (by omega)⟩, fun i h1 h2 => by
    by_cases e : a ≤ i ∧ i < b
    · obtain ⟨j, j1, j2, e2⟩ := h.fwd i e.1 e.2
      exact ⟨j, by omega, by omega, e2⟩
    · exact ⟨i, h1, h2, h.out i (by omega)⟩⟩

def swap (d : Nat → Nat) (i j : Nat) : Nat → Nat := fun x => if x = i then d j else if x = j then d i else d x
theorem mv_swap (d : Nat → Nat) (i j a b : Nat) (h1 : a ≤ i) (h2 : i < b) (h3 : a ≤ j) (h4 : j < b) : Mv a b d (swap d i j) := by
  refine ⟨fun x hx => ?_, fun x hx hx2 => ?_, fun x hx hx2 => ?_⟩
  · unfold swap; rw [if_neg (by omega), if_neg (by omega)]
  · unfold swap
    by_cases e : x = i
    · exact ⟨j, h3, h4, by simp [e]⟩
    · by_cases e2 : x = j
      · exact ⟨i, h1, h2, by rw [if_neg e, if_pos e2]⟩
      · exact ⟨x, hx, hx2, by rw [if_neg e, if_neg e2]⟩
  · unfold swap
    by_cases e : x = i
    · refine ⟨j, h3, h4, ?_⟩
      by_cases e3 : j = i
      · rw [if_pos e3, e, e3]
      · rw [if_neg e3, if_pos rfl, e]
    · by_cases e2 : x = j
      · exact ⟨i, h1, h2, by rw [if_pos rfl, e2]⟩
      · exact ⟨x, hx, hx2, by rw [if_neg e, if_neg e2]⟩

/-- [m, b) ahead of [a, m). -/
def rotF (d : Nat → Nat) (a m b : Nat) : Nat → Nat := fun x => if x < a ∨ b ≤ x then d x else if x < a + (b - m) then d (x + (m - a)) else d (x - (b - m))
/-- k of those from p on change places with those from q on. -/
def swapR (d : Nat → Nat) (p q k : Nat) : Nat → Nat := fun x => if p ≤ x ∧ x < p + k then d (x - p + q) else if q ≤ x ∧ x < q + k then d (x - q + p) else d x

theorem swapR_zero (d : Nat → Nat) (p q : Nat) : swapR d p q 0 = d := by
  funext x; unfold swapR; rw [if_neg (by omega), if_neg (by omega)]
theorem swapR_succ (d : Nat → Nat) (p q k : Nat) (h : p + k < q) : swap (swapR d p q k) (p + k) (q + k) = swapR d p q (k + 1) := by
  funext x
  unfold swap swapR
  by_cases e1 : x = p + k
  · subst e1
    simp only [if_true]
    rw [if_neg (by omega), if_neg (by omega), if_pos (by omega)]
    congr 1; omega
  · by_cases e2 : x = q + k
    · subst e2
      rw [if_neg e1, if_pos rfl, if_neg (by omega), if_neg (by omega), if_neg (by omega), if_pos (by omega)]
      congr 1; omega
    · rw [if_neg e1, if_neg e2]
      by_cases c1 : p ≤ x ∧ x < p + k
      · rw [if_pos c1, if_pos (by omega)]
      · rw [if_neg c1, if_neg (show ¬ (p ≤ x ∧ x < p + (k + 1)) by omega)]
        by_cases c2 : q ≤ x ∧ x < q + k
        · rw [if_pos c2, if_pos (by omega)]
        · rw [if_neg c2, if_neg (by omega)]

theorem rot_left (d : Nat → Nat) (m i j : Nat) (hi : i ≤ m) (h : j < i) : rotF (swapR d (m - i) m j) (m - (i - j)) m (m + j) = rotF d (m - i) m (m + j) := by
  funext x
  unfold rotF
  by_cases c1 : x < m - i ∨ m + j ≤ x
  · rw [if_pos c1, if_pos (by omega)]; unfold swapR; rw [if_neg (by omega), if_neg (by omega)]
  · rw [if_neg c1]
    by_cases c2 : x < m - (i - j)
    · rw [if_pos (Or.inl c2), if_pos (by omega)]; unfold swapR; rw [if_pos (by omega)]; congr 1; omega
    · rw [if_neg (by omega), if_neg (show ¬ x < m - i + (m + j - m) by omega)]
      by_cases c3 : x < m - (i - j) + (m + j - m)
      · rw [if_pos c3]; unfold swapR; rw [if_neg (by omega), if_pos (by omega)]; congr 1; omega
      · rw [if_neg c3]; unfold swapR; rw [if_neg (by omega), if_neg (by omega)]
theorem rot_right (d : Nat → Nat) (m i j : Nat) (hi : i ≤ m) (h : i < j) : rotF (swapR d (m - i) (m + j - i) i) (m - i) m (m + (j - i)) = rotF d (m - i) m (m + j) := by
  funext x
  unfold rotF
  by_cases c1 : x < m - i ∨ m + j ≤ x
  · rw [if_pos c1, if_pos (by omega)]; unfold swapR; rw [if_neg (by omega), if_neg (by omega)]
  · rw [if_neg c1]
    by_cases c2 : m + (j - i) ≤ x
    · rw [if_pos (Or.inr c2), if_neg (by omega)]; unfold swapR; rw [if_neg (by omega), if_pos (by omega)]; congr 1; omega
    · rw [if_neg (by omega)]
      by_cases c3 : x < m - i + (m + (j - i) - m)
      · rw [if_pos c3, if_pos (by omega)]; unfold swapR
        by_cases c4 : m - i ≤ x + (m - (m - i)) ∧ x + (m - (m - i)) < m - i + i
        · omega
        · rw [if_neg c4, if_neg (by omega)]
      · rw [if_neg c3]; unfold swapR; rw [if_pos (by omega)]
        by_cases c4 : x < m - i + (m + j - m)
        · rw [if_pos c4]; congr 1; omega
        · rw [if_neg c4]; omega
theorem rot_even (d : Nat → Nat) (m i : Nat) (hi : i ≤ m) : swapR d (m - i) m i = rotF d (m - i) m (m + i) := by
  funext x
  unfold rotF swapR
  by_cases c1 : x < m - i ∨ m + i ≤ x
  · rw [if_pos c1, if_neg (by omega), if_neg (by omega)]
  · rw [if_neg c1]
    by_cases c2 : x < m
    · rw [if_pos (by omega), if_pos (by omega)]; congr 1; omega
    · rw [if_neg (by omega), if_pos (by omega), if_neg (by omega)]; congr 1; omega
theorem rot_none (d : Nat → Nat) (a m b : Nat) (h : m ≤ a ∨ b ≤ m) : rotF d a m b = d := by
  funext x
  unfold rotF
  by_cases c1 : x < a ∨ b ≤ x
  · rw [if_pos c1]
  · rw [if_neg c1]
    rcases h with h | h
    · by_cases c2 : x < a + (b - m)
      · rw [if_pos c2, show m - a = 0 by omega]; rfl
      · omega
    · rw [if_neg (by omega), show b - m = 0 by omega]; rfl

theorem rot_inv (a m b x : Nat) (h1 : a ≤ m) (h2 : m ≤ b) (d : Nat → Nat) : rotF (rotF d a m b) a (a + (b - m)) b x = d x := by
  unfold rotF
  by_cases c1 : x < a ∨ b ≤ x
  · rw [if_pos c1, if_pos c1]
  · rw [if_neg c1]
    by_cases c2 : x < a + (b - (a + (b - m)))
    · rw [if_pos c2, if_neg (by omega), if_neg (by omega)]; congr 1; omega
    · rw [if_neg c2, if_neg (by omega), if_pos (by omega)]; congr 1; omega
theorem mv_rot (d : Nat → Nat) (a m b : Nat) (h1 : a ≤ m) (h2 : m ≤ b) : Mv a b d (rotF d a m b) := by
  refine ⟨fun x hx => ?_, fun x hx hx2 => ?_, fun x hx hx2 => ?_⟩
  · unfold rotF; rw [if_pos hx]
  · unfold rotF; rw [if_neg (by omega)]
    by_cases c2 : x < a + (b - m)
    · exact ⟨x + (m - a), by omega, by omega, by rw [if_pos c2]⟩
    · exact ⟨x - (b - m), by omega, by omega, by rw [if_neg c2]⟩
  · unfold rotF
    by_cases c2 : x < m
    · exact ⟨x + (b - m), by omega, by omega, by rw [if_neg (by omega), if_neg (by omega)]; congr 1; omega⟩
    · exact ⟨x - (m - a), by omega, by omega, by rw [if_neg (by omega), if_pos (by omega)]; congr 1; omega⟩

/-! ### merging -/
section
variable {key : Nat → Nat}
/-- Two sorted halves, the left one's of each key ahead of the right one's. -/
structure Two' (key : Nat → Nat) (a m b : Nat) (d : Nat → Nat) : Prop where
  l : Sd key a m d
  r : Sd key m b d
  cross : ∀ i j, a ≤ i → i < m → m ≤ j → j < b → key (d i) ≤ key (d j) → Lt key (d i) (d j)

theorem sd_sub {a b a' b' : Nat} {d : Nat → Nat} (h : Sd key a b d) (ha : a ≤ a') (hb : b' ≤ b) : Sd key a' b' d := fun i j h1 h2 h3 => h i j (by omega) h2 (by omega)
theorem sd_congr {a b : Nat} {d d' : Nat → Nat} (h : Sd key a b d) (he : ∀ i, a ≤ i → i < b → d' i = d i) : Sd key a b d' := fun i j h1 h2 h3 => by
  rw [he i h1 (by omega), he j (by omega) h3]; exact h i j h1 h2 h3
/-- Where all of the first half are ahead of all of the second one. -/
theorem sd_join {a m b : Nat} {d : Nat → Nat} (h1 : Sd key a m d) (h2 : Sd key m b d) (h : ∀ i j, a ≤ i → i < m → m ≤ j → j < b → Lt key (d i) (d j)) : Sd key a b d := fun i j i1 ij jb => by
  by_cases c : j < m
  · exact h1 i j i1 ij c
  · by_cases c2 : i < m
    · exact h i j i1 c2 (by omega) jb
    · exact h2 i j (by omega) ij jb

/-- The place at which the left half is cut: s of the left one's are ahead of all of the right one's from e on, and the others behind all of the right one's below e. -/
structure Cut (key : Nat → Nat) (a s m e b : Nat) (d : Nat → Nat) : Prop where
  s1 : a ≤ s
  s2 : s ≤ m
  e1 : m ≤ e
  e2 : e ≤ b
  lo : s = a ∨ e = b ∨ key (d (s - 1)) ≤ key (d e)
  hi : s = m ∨ e = m ∨ key (d (e - 1)) < key (d s)

theorem key_mono {a b : Nat} {d : Nat → Nat} (h : Sd key a b d) {i j : Nat} (h1 : a ≤ i) (h2 : i ≤ j) (h3 : j < b) : key (d i) ≤ key (d j) := by
  rcases Nat.lt_or_ge i j with l | l
  · exact (h i j h1 l h3).le
  · obtain rfl : i = j := by omega
    exact Nat.le_refl _

/-- What stands at a place behind the rotation. -/
theorem rot_lo {d : Nat → Nat} {s m e i : Nat} (h : i < s) : rotF d s m e i = d i := by unfold rotF; rw [if_pos (Or.inl h)]
theorem rot_hi {d : Nat → Nat} {s m e i : Nat} (h : e ≤ i) : rotF d s m e i = d i := by unfold rotF; rw [if_pos (Or.inr h)]
theorem rot_a {d : Nat → Nat} {s m e i : Nat} (h1 : s ≤ i) (h2 : i < s + (e - m)) (h3 : s ≤ m) (h4 : m ≤ e) : rotF d s m e i = d (i + (m - s)) := by unfold rotF; rw [if_neg (by omega), if_pos h2]
theorem rot_b {d : Nat → Nat} {s m e i : Nat} (h1 : s + (e - m) ≤ i) (h2 : i < e) (h3 : s ≤ m) (h4 : m ≤ e) : rotF d s m e i = d (i - (e - m)) := by unfold rotF; rw [if_neg (by omega), if_neg (by omega)]

/-- Behind the rotation: both halves are two sorted ones again, and all of the first is ahead of all of the second. -/
theorem cut_rot {a s m e b : Nat} {d : Nat → Nat} (h : Two' key a m b d) (c : Cut key a s m e b d) :
    Two' key a s (s + (e - m)) (rotF d s m e) ∧ Two' key (s + (e - m)) e b (rotF d s m e) ∧
      ∀ i j, a ≤ i → i < s + (e - m) → s + (e - m) ≤ j → j < b → Lt key (rotF d s m e i) (rotF d s m e j) := by
  obtain ⟨s1, s2, e1, e2, lo, hi⟩ := c
  refine ⟨⟨?_, ?_, ?_⟩, ⟨?_, ?_, ?_⟩, ?_⟩
  · exact sd_congr (sd_sub h.l (Nat.le_refl _) s2) fun i _ i2 => rot_lo i2
  · intro i j i1 i2 i3
    rw [rot_a i1 (by omega) s2 e1, rot_a (by omega) i3 s2 e1]
    exact h.r _ _ (by omega) (by omega) (by omega)
  · intro i j i1 i2 i3 i4
    rw [rot_lo i2, rot_a i3 i4 s2 e1]
    exact h.cross _ _ i1 (by omega) (by omega) (by omega)
  · intro i j i1 i2 i3
    rw [rot_b i1 (by omega) s2 e1, rot_b (by omega) i3 s2 e1]
    exact h.l _ _ (by omega) (by omega) (by omega)
  · exact sd_congr (sd_sub h.r e1 (Nat.le_refl _)) fun i i1 _ => rot_hi i1
  · intro i j i1 i2 i3 i4
    rw [rot_b i1 i2 s2 e1, rot_hi i3]
    exact h.cross _ _ (by omega) (by omega) (by omega) i4
  · intro i j i1 i2 i3 i4
    by_cases ci : i < s
    · rw [rot_lo ci]
      by_cases cj : j < e
      · rw [rot_b i3 cj s2 e1]; exact h.l _ _ i1 (by omega) (by omega)
      · rw [rot_hi (by omega)]
        refine h.cross _ _ i1 (by omega) (by omega) i4 ?_
        rcases lo with lo | lo | lo
        · omega
        · omega
        · exact Nat.le_trans (key_mono h.l i1 (show i ≤ s - 1 by omega) (by omega)) (Nat.le_trans lo (key_mono h.r e1 (by omega) i4))
    · rw [rot_a (by omega) i2 s2 e1]
      by_cases cj : j < e
      · rw [rot_b i3 cj s2 e1]
        rcases hi with hi | hi | hi
        · omega
        · omega
        · refine Or.inl (Nat.lt_of_le_of_lt (key_mono h.r (by omega) (show i + (m - s) ≤ e - 1 by omega) (by omega)) (Nat.lt_of_lt_of_le hi (key_mono h.l s1 (by omega) (by omega))))
      · rw [rot_hi (by omega)]; exact h.r _ _ (by omega) (by omega) i4

/-- The two halves sorted each, the whole is. -/
theorem merged {a m b : Nat} {d d1 d2 : Nat → Nat} (ha : a ≤ m) (hb : m ≤ b) (h : ∀ i j, a ≤ i → i < m → m ≤ j → j < b → Lt key (d i) (d j)) (m1 : Mv a m d d1) (q1 : Sd key a m d1) (m2 : Mv m b d1 d2) (q2 : Sd key m b d2) :
    Mv a b d d2 ∧ Sd key a b d2 := by
  refine ⟨(m1.wide (Nat.le_refl _) hb).trans (m2.wide ha (Nat.le_refl _)), sd_join (sd_congr q1 fun i _ i2 => m2.out i (Or.inl i2)) q2 fun i j i1 i2 i3 i4 => ?_⟩
  rw [m2.out i (Or.inl i2)]
  obtain ⟨j', j1, j2, e⟩ := m2.back j i3 i4
  obtain ⟨i', i1', i2', e'⟩ := m1.back i i1 i2
  rw [e, e', m1.out j' (Or.inr j1)]
  exact h i' j' i1' i2' j1 j2
theorem sd_one {a b : Nat} {d : Nat → Nat} (h : b ≤ a + 1) : Sd key a b d := fun i j _ _ _ => by omega
theorem Two'.right {a b : Nat} {d : Nat → Nat} {m : Nat} (h : Two' key a m b d) (e : m ≤ a) : Sd key a b d := fun i j h1 h2 h3 => h.r i j (by omega) h2 h3
theorem Two'.left {a b : Nat} {d : Nat → Nat} {m : Nat} (h : Two' key a m b d) (e : b ≤ m) : Sd key a b d := fun i j h1 h2 h3 => h.l i j h1 h2 (by omega)

/-! ### inserting -/
/-- From a to i in order, but that the one at j may belong further ahead. -/
structure Ins (key : Nat → Nat) (a i j : Nat) (d : Nat → Nat) : Prop where
  rest : ∀ x y, a ≤ x → x < y → y ≤ i → x ≠ j → y ≠ j → Lt key (d x) (d y)
  behind : ∀ y, j < y → y ≤ i → Lt key (d j) (d y)
  cross : ∀ x, a ≤ x → x < j → key (d x) ≤ key (d j) → Lt key (d x) (d j)
theorem ins_start {a i : Nat} {d : Nat → Nat} (h : Sd key a i d) (hc : ∀ x, a ≤ x → x < i → key (d x) ≤ key (d i) → Lt key (d x) (d i)) : Ins key a i i d :=
  ⟨fun x y h1 h2 h3 h4 h5 => h x y h1 h2 (by omega), fun y h1 h2 => by omega, hc⟩
theorem ins_step {a i k : Nat} {d : Nat → Nat} (h : Ins key a i (k + 1) d) (ha : a ≤ k) (hi : k + 1 ≤ i) (hl : key (d (k + 1)) < key (d k)) : Ins key a i k (swap d (k + 1) k) := by
  have s1 : swap d (k + 1) k (k + 1) = d k := by unfold swap; rw [if_pos rfl]
  have s2 : swap d (k + 1) k k = d (k + 1) := by unfold swap; rw [if_neg (by omega), if_pos rfl]
  have s3 : ∀ x, x ≠ k + 1 → x ≠ k → swap d (k + 1) k x = d x := fun x h1 h2 => by unfold swap; rw [if_neg h1, if_neg h2]
  refine ⟨fun x y h1 h2 h3 h4 h5 => ?_, fun y h1 h2 => ?_, fun x h1 h2 h3 => ?_⟩
  · by_cases e1 : x = k + 1
    · subst e1; rw [s1, s3 y (by omega) (by omega)]; exact h.rest k y ha (by omega) h3 (by omega) (by omega)
    · by_cases e2 : y = k + 1
      · subst e2; rw [s1, s3 x (by omega) (by omega)]; exact h.rest x k h1 (by omega) (by omega) (by omega) (by omega)
      · rw [s3 x e1 h4, s3 y e2 h5]; exact h.rest x y h1 h2 h3 e1 e2
  · rw [s2]
    by_cases e : y = k + 1
    · subst e; rw [s1]; exact Or.inl hl
    · rw [s3 y e (by omega)]; exact h.behind y (by omega) h2
  · rw [s2] at h3 ⊢
    rw [s3 x (by omega) (by omega)] at h3 ⊢
    exact h.cross x h1 (by omega) h3
theorem ins_stop {a i j : Nat} {d : Nat → Nat} (h : Ins key a i j d) (ha : a ≤ j) (hj : j ≤ i) (hs : j = a ∨ key (d (j - 1)) ≤ key (d j)) : Sd key a (i + 1) d := fun x y h1 h2 h3 => by
  by_cases e1 : x = j
  · subst e1; exact h.behind y h2 (by omega)
  · by_cases e2 : y = j
    · subst e2
      rcases hs with hs | hs
      · omega
      · refine h.cross x h1 h2 ?_
        by_cases e3 : x = y - 1
        · rw [e3]; exact hs
        · exact Nat.le_trans (h.rest x (y - 1) h1 (by omega) (by omega) e1 (by omega)).le hs
    · exact h.rest x y h1 h2 (by omega) e1 e2

/-- One alone on the left, put where it belongs. -/
theorem ins_left {a e x : Nat} {d : Nat → Nat} (h : Two' key a (a + 1) e d) (h1 : a + 1 ≤ x) (h2 : x ≤ e) (lo : x = a + 1 ∨ key (d (x - 1)) < key (d a)) (hi : x = e ∨ key (d a) ≤ key (d x)) : Sd key a e (rotF d a (a + 1) x) := by
  have below : ∀ k, a + 1 ≤ k → k < x → Lt key (d k) (d a) := fun k k1 k2 => by
    rcases lo with lo | lo
    · omega
    · exact Or.inl (Nat.lt_of_le_of_lt (key_mono h.r k1 (show k ≤ x - 1 by omega) (by omega)) lo)
  have above : ∀ k, x ≤ k → k < e → Lt key (d a) (d k) := fun k k1 k2 => by
    rcases hi with hi | hi
    · omega
    · exact h.cross a k (Nat.le_refl _) (by omega) (by omega) k2 (Nat.le_trans hi (key_mono h.r h1 k1 k2))
  intro i j i1 i2 i3
  by_cases ci : x ≤ i
  · rw [rot_hi ci, rot_hi (by omega)]; exact h.r i j (by omega) i2 i3
  · by_cases ci2 : i < a + (x - (a + 1))
    · rw [rot_a i1 ci2 (by omega) h1]
      by_cases cj : x ≤ j
      · rw [rot_hi cj]; exact h.r _ _ (by omega) (by omega) i3
      · by_cases cj2 : j < a + (x - (a + 1))
        · rw [rot_a (by omega) cj2 (by omega) h1]; exact h.r _ _ (by omega) (by omega) (by omega)
        · rw [rot_b (by omega) (by omega) (by omega) h1, show j - (x - (a + 1)) = a by omega]; exact below _ (by omega) (by omega)
    · rw [rot_b (by omega) (by omega) (by omega) h1, show i - (x - (a + 1)) = a by omega, rot_hi (by omega)]; exact above j (by omega) i3
/-- One alone on the right, put where it belongs. -/
theorem ins_right {a m x : Nat} {d : Nat → Nat} (h : Two' key a m (m + 1) d) (h1 : a ≤ x) (h2 : x ≤ m) (lo : x = a ∨ key (d (x - 1)) ≤ key (d m)) (hi : x = m ∨ key (d m) < key (d x)) : Sd key a (m + 1) (rotF d x m (m + 1)) := by
  have below : ∀ k, a ≤ k → k < x → Lt key (d k) (d m) := fun k k1 k2 => by
    rcases lo with lo | lo
    · omega
    · exact h.cross k m k1 (by omega) (Nat.le_refl _) (by omega) (Nat.le_trans (key_mono h.l k1 (show k ≤ x - 1 by omega) (by omega)) lo)
  have above : ∀ k, x ≤ k → k < m → Lt key (d m) (d k) := fun k k1 k2 => by
    rcases hi with hi | hi
    · omega
    · exact Or.inl (Nat.lt_of_lt_of_le hi (key_mono h.l h1 k1 k2))
  intro i j i1 i2 i3
  by_cases ci : i < x
  · rw [rot_lo ci]
    by_cases cj : j < x
    · rw [rot_lo cj]; exact h.l i j i1 i2 (by omega)
    · by_cases cj2 : j < x + (m + 1 - m)
      · rw [rot_a (by omega) cj2 h2 (by omega), show j + (m - x) = m by omega]; exact below i i1 ci
      · rw [rot_b (by omega) (by omega) h2 (by omega)]; exact h.l _ _ i1 (by omega) (by omega)
  · by_cases ci2 : i < x + (m + 1 - m)
    · rw [rot_a (by omega) ci2 h2 (by omega), show i + (m - x) = m by omega, rot_b (by omega) (by omega) h2 (by omega)]; exact above _ (by omega) (by omega)
    · rw [rot_b (by omega) (by omega) h2 (by omega), rot_b (by omega) (by omega) h2 (by omega)]; exact h.l _ _ (by omega) (by omega) (by omega)
theorem rot_up (d : Nat → Nat) (a k : Nat) (h : a ≤ k) : swap (rotF d a (a + 1) (k + 1)) k (k + 1) = rotF d a (a + 1) (k + 2) := by
  funext x
  unfold swap
  by_cases e1 : x = k
  · rw [if_pos e1, rot_hi (Nat.le_refl _), rot_a (by omega) (by omega) (by omega) (by omega)]; congr 1; omega
  · rw [if_neg e1]
    by_cases e2 : x = k + 1
    · rw [if_pos e2, rot_b (by omega) (by omega) (by omega) (by omega), rot_b (by omega) (by omega) (by omega) (by omega)]; congr 1; omega
    · rw [if_neg e2]
      by_cases c1 : x < a
      · rw [rot_lo c1, rot_lo c1]
      · by_cases c2 : k + 2 ≤ x
        · rw [rot_hi (by omega), rot_hi c2]
        · rw [rot_a (by omega) (by omega) (by omega) (by omega), rot_a (by omega) (by omega) (by omega) (by omega)]
theorem rot_down (d : Nat → Nat) (m k : Nat) (h : k + 1 ≤ m) : swap (rotF d (k + 1) m (m + 1)) (k + 1) k = rotF d k m (m + 1) := by
  funext x
  unfold swap
  by_cases e1 : x = k + 1
  · rw [if_pos e1, rot_lo (by omega), rot_b (by omega) (by omega) (by omega) (by omega)]; congr 1; omega
  · rw [if_neg e1]
    by_cases e2 : x = k
    · rw [if_pos e2, rot_a (by omega) (by omega) (by omega) (by omega), rot_a (by omega) (by omega) (by omega) (by omega)]; congr 1; omega
    · rw [if_neg e2]
      by_cases c1 : x < k
      · rw [rot_lo (by omega), rot_lo c1]
      · by_cases c2 : m + 1 ≤ x
        · rw [rot_hi c2, rot_hi c2]
        · rw [rot_b (by omega) (by omega) (by omega) (by omega), rot_b (by omega) (by omega) (by omega) (by omega)]

/-! ### blocks -/
/-- The block from a to b is sorted, and has what it had. -/
structure Good (key : Nat → Nat) (a b : Nat) (d : Nat → Nat) : Prop where
  sd : Sd key a b d
  has : ∀ i, a ≤ i → i < b → a ≤ d i ∧ d i < b
theorem Good.congr {a b : Nat} {d d' : Nat → Nat} (h : Good key a b d) (he : ∀ i, a ≤ i → i < b → d' i = d i) : Good key a b d' :=
  ⟨sd_congr h.sd he, fun i h1 h2 => by rw [he i h1 h2]; exact h.has i h1 h2⟩
theorem Good.two {a m b : Nat} {d : Nat → Nat} (h1 : Good key a m d) (h2 : Good key m b d) : Two' key a m b d :=
  ⟨h1.sd, h2.sd, fun i j i1 i2 j1 j2 hk => by
    have := h1.has i i1 i2
    have := h2.has j j1 j2
    unfold Lt; omega⟩
theorem Good.merged {a m b : Nat} {d d' : Nat → Nat} (h1 : Good key a m d) (h2 : Good key m b d) (ha : a ≤ m) (hb : m ≤ b) (mv : Mv a b d d') (hs : Sd key a b d') : Good key a b d' :=
  ⟨hs, fun i i1 i2 => by
    obtain ⟨j, j1, j2, e⟩ := mv.back i i1 i2
    rw [e]
    by_cases c : j < m
    · have := h1.has j j1 c; omega
    · have := h2.has j (by omega) j2; omega⟩
/-- Blocks of B, each in order, the last one as long as there is. -/
def Blocks (key : Nat → Nat) (B n : Nat) (d : Nat → Nat) : Prop := ∀ k, k * B < n → Good key (k * B) (min (k * B + B) n) d
/-- Blocks of B up to A; behind that nothing has moved. -/
def First (key : Nat → Nat) (B A : Nat) (d : Nat → Nat) : Prop := ∃ q, A = q * B ∧ (∀ k, k < q → Good key (k * B) (k * B + B) d) ∧ ∀ i, A ≤ i → d i = i
/-- Blocks of 2 B up to A, and of B behind it. -/
def Part (key : Nat → Nat) (B n A : Nat) (d : Nat → Nat) : Prop := ∃ q, A = q * (2 * B) ∧ (∀ k, k < q → Good key (k * (2 * B)) (k * (2 * B) + 2 * B) d) ∧ ∀ k, 2 * q ≤ k → k * B < n → Good key (k * B) (min (k * B + B) n) d

theorem good_of_id {a e : Nat} {d d' : Nat → Nat} (h : ∀ i, a ≤ i → d i = i) (mv : Mv a e d d') (hs : Sd key a e d') : Good key a e d' :=
  ⟨hs, fun i i1 i2 => by
    obtain ⟨j, j1, j2, e1⟩ := mv.back i i1 i2
    rw [e1, h j j1]; omega⟩
theorem mul_le_of_lt {k q B : Nat} (h : k < q) : k * B + B ≤ q * B := by
  have := Nat.mul_le_mul_right B (show k + 1 ≤ q from h)
  rwa [Nat.add_mul, Nat.one_mul] at this
theorem first_start (B : Nat) (d : Nat → Nat) (h : ∀ i, d i = i) : First key B 0 d := ⟨0, by omega, fun k hk => by omega, fun i _ => h i⟩
theorem First.step {B A : Nat} {d d' : Nat → Nat} (h : First key B A d) (mv : Mv A (A + B) d d') (hs : Sd key A (A + B) d') : First key B (A + B) d' := by
  obtain ⟨q, hA, h1, h2⟩ := h
  refine ⟨q + 1, by rw [hA, Nat.add_mul, Nat.one_mul], fun k hk => ?_, fun i hi => by rw [mv.out i (Or.inr hi)]; exact h2 i (by omega)⟩
  by_cases e : k < q
  · have := mul_le_of_lt (B := B) e
    exact (h1 k e).congr fun i i1 i2 => mv.out i (Or.inl (by omega))
  · obtain rfl : k = q := by omega
    rw [← hA]; exact good_of_id h2 mv hs
theorem First.blocks {B A n : Nat} {d d' : Nat → Nat} (h : First key B A d) (hn : A ≤ n) (hB : n < A + B) (mv : Mv A n d d') (hs : Sd key A n d') : Blocks key B n d' := by
  obtain ⟨q, hA, h1, h2⟩ := h
  intro k hk
  by_cases e : k < q
  · have := mul_le_of_lt (B := B) e
    rw [show min (k * B + B) n = k * B + B by omega]
    exact (h1 k e).congr fun i i1 i2 => mv.out i (Or.inl (by omega))
  · by_cases e2 : k = q
    · subst e2
      rw [← hA, show min (A + B) n = n by omega]; exact good_of_id h2 mv hs
    · have := mul_le_of_lt (B := B) (show q < k by omega)
      omega
theorem part_start {B n : Nat} {d : Nat → Nat} (h : Blocks key B n d) : Part key B n 0 d := ⟨0, by omega, fun k hk => by omega, fun k _ hk => h k hk⟩
theorem dbl (q B : Nat) : 2 * q * B = q * (2 * B) := by rw [Nat.mul_comm 2 q, Nat.mul_assoc]
theorem Part.left {B n A : Nat} {d : Nat → Nat} (h : Part key B n A d) (hn : A < n) : Good key A (min (A + B) n) d := by
  obtain ⟨q, hA, _, h2⟩ := h
  have := h2 (2 * q) (Nat.le_refl _) (by rw [dbl, ← hA]; exact hn)
  rwa [dbl, ← hA] at this
theorem Part.right {B n A : Nat} {d : Nat → Nat} (h : Part key B n A d) (hn : A + B < n) : Good key (A + B) (min (A + 2 * B) n) d := by
  obtain ⟨q, hA, _, h2⟩ := h
  have e : (2 * q + 1) * B = A + B := by rw [Nat.add_mul, Nat.one_mul, dbl, ← hA]
  have := h2 (2 * q + 1) (by omega) (by rw [e]; exact hn)
  rw [e, show A + B + B = A + 2 * B by omega] at this; exact this
theorem Part.step {B n A : Nat} {d d' : Nat → Nat} (h : Part key B n A d) (mv : Mv A (A + 2 * B) d d') (hg : Good key A (A + 2 * B) d') : Part key B n (A + 2 * B) d' := by
  obtain ⟨q, hA, h1, h2⟩ := h
  refine ⟨q + 1, by rw [hA, Nat.add_mul, Nat.one_mul], fun k hk => ?_, fun k hk hkn => ?_⟩
  · by_cases e : k < q
    · have := mul_le_of_lt (B := 2 * B) e
      exact (h1 k e).congr fun i i1 i2 => mv.out i (Or.inl (by omega))
    · obtain rfl : k = q := by omega
      rw [← hA]; exact hg
  · have := Nat.mul_le_mul_right B hk
    rw [show 2 * (q + 1) * B = A + 2 * B by rw [dbl, Nat.add_mul, Nat.one_mul, ← hA]] at this
    exact (h2 k (by omega) hkn).congr fun i i1 i2 => mv.out i (Or.inr (by omega))
theorem Part.blocks {B n A : Nat} {d d' : Nat → Nat} (h : Part key B n A d) (hAn : A ≤ n) (hn2 : n < A + 2 * B) (mv : Mv A n d d') (hg : A < n → Good key A n d') : Blocks key (2 * B) n d' := by
  obtain ⟨q, hA, h1, h2⟩ := h
  intro k hk
  by_cases e : k < q
  · have := mul_le_of_lt (B := 2 * B) e
    rw [show min (k * (2 * B) + 2 * B) n = k * (2 * B) + 2 * B by omega]
    exact (h1 k e).congr fun i i1 i2 => mv.out i (Or.inl (by omega))
  · by_cases e2 : k = q
    · subst e2
      rw [← hA] at hk ⊢
      rw [show min (A + 2 * B) n = n by omega]; exact hg hk
    · have := mul_le_of_lt (B := 2 * B) (show q < k by omega)
      omega
theorem Blocks.whole {B n : Nat} {d : Nat → Nat} (h : Blocks key B n d) (hB : n ≤ B) : Sd key 0 n d := by
  rcases Nat.eq_zero_or_pos n with e | e
  · subst e; exact sd_one (by omega)
  · have := (h 0 (by omega)).sd
    rwa [Nat.zero_mul, show min (0 + B) n = n by omega] at this
end

/-! ### what comes out -/
theorem sorted_unique {r : Nat → Nat → Prop} (irr : ∀ x, ¬ r x x) (tr : ∀ x y z, r x y → r y z → r x z) : ∀ l l' : List Nat, l.Pairwise r → l'.Pairwise r → (∀ x, x ∈ l ↔ x ∈ l') → l = l'
  | [], [], _, _, _ => rfl
  | [], y :: _, _, _, h => by have := (h y).2 (by simp); simp at this
  | x :: _, [], _, _, h => by have := (h x).1 (by simp); simp at this
  | x :: t, y :: t', h1, h2, h => by
    rw [List.pairwise_cons] at h1 h2
    have hx : x = y := by
      rcases List.mem_cons.1 ((h x).1 (by simp)) with e | e
      · exact e
      · rcases List.mem_cons.1 ((h y).2 (by simp)) with e2 | e2
        · exact e2.symm
        · exact absurd (tr _ _ _ (h1.1 y e2) (h2.1 x e)) (irr x)
    subst hx
    rw [sorted_unique irr tr t t' h1.2 h2.2 fun z => ?_]
    constructor
    · intro hz
      rcases List.mem_cons.1 ((h z).1 (by simp [hz])) with e | e
      · subst e; exact absurd (h1.1 z hz) (irr z)
      · exact e
    · intro hz
      rcases List.mem_cons.1 ((h z).2 (by simp [hz])) with e | e
      · subst e; exact absurd (h2.1 z hz) (irr z)
      · exact e

/-- By keys, from 0 on, those of one key as they stand. -/
def bucket {α : Type} (k : α → Nat) (K : Nat) (l : List α) : List α := (List.range K).flatMap fun c => l.filter fun x => k x == c

theorem flatMap_pairwise {r : Nat → Nat → Prop} (f : Nat → List Nat) : ∀ K, (∀ c, c < K → (f c).Pairwise r) → (∀ c c' x y, c < c' → x ∈ f c → y ∈ f c' → r x y) → ((List.range K).flatMap f).Pairwise r
  | 0, _, _ => by simp
  | K + 1, h1, h2 => by
    rw [List.range_succ, List.flatMap_append, List.pairwise_append]
    refine ⟨flatMap_pairwise f K (fun c hc => h1 c (by omega)) h2, by simpa using h1 K (by omega), fun x hx y hy => ?_⟩
    rw [List.mem_flatMap] at hx
    obtain ⟨c, hc, hx⟩ := hx
    rw [List.mem_range] at hc
    exact h2 c K x y hc hx (by simpa using hy)

theorem range_pairwise (n : Nat) : (List.range n).Pairwise (· < ·) := List.pairwise_lt_range

theorem sorted_bucket (key : Nat → Nat) (n K : Nat) (hK : ∀ i, i < n → key i < K) (d : Nat → Nat) (hs : Sd key 0 n d) (hm : Mv 0 n id d) : (List.range n).map d = bucket key K (List.range n) := by
  refine sorted_unique (r := Lt key) (fun x h => by unfold Lt at h; omega) (fun x y z => Lt.trans) _ _ ?_ ?_ fun x => ?_
  · rw [List.pairwise_map]
    exact (range_pairwise n).imp_of_mem fun {i j} hi hj hij => hs i j (Nat.zero_le _) hij (List.mem_range.1 hj)
  · unfold bucket
    refine flatMap_pairwise _ K (fun c hc => ?_) fun c c' x y h hx hy => ?_
    · rw [List.pairwise_filter]
      refine (range_pairwise n).imp_of_mem fun {i j} _ _ hij h1 h2 => ?_
      simp only [beq_iff_eq] at h1 h2
      exact Or.inr ⟨by omega, hij⟩
    · simp only [List.mem_filter, beq_iff_eq] at hx hy
      exact Or.inl (by omega)
  · unfold bucket
    simp only [List.mem_map, List.mem_range, List.mem_flatMap, List.mem_filter, beq_iff_eq]
    constructor
    · rintro ⟨i, hi, rfl⟩
      obtain ⟨j, _, j2, e⟩ := hm.back i (Nat.zero_le _) hi
      rw [e]
      exact ⟨key j, hK j j2, j2, rfl⟩
    · rintro ⟨c, hc, hx, _⟩
      obtain ⟨j, _, j2, e⟩ := hm.fwd x (Nat.zero_le _) hx
      exact ⟨j, j2, e⟩

theorem bucket_map {α β : Type} (f : α → β) (k : β → Nat) (K : Nat) (l : List α) : bucket k K (l.map f) = (bucket (fun x => k (f x)) K l).map f := by
  unfold bucket
  rw [List.map_flatMap]
  congr 1; funext c
  rw [List.filter_map]; rfl

/-- A row that was sorted: by its keys. -/
theorem sorted_list {α : Type} (L : Nat → α) (k : α → Nat) (n K : Nat) (hK : ∀ i, i < n → k (L i) < K) (d : Nat → Nat) (hs : Sd (fun i => k (L i)) 0 n d) (hm : Mv 0 n id d) :
    (List.range n).map (fun i => L (d i)) = bucket k K ((List.range n).map L) := by
  rw [bucket_map, ← sorted_bucket (fun i => k (L i)) n K hK d hs hm, List.map_map]; rfl
end Go.Proofs.YtgehepiphdphjaaDoor
