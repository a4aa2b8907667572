/- Valid UTF-8: the model's decoder and the standard's table tell the same. -/
import Derived.Test.YtidoofdofdhjpaaM03
import Derived.Lib.ValidU
import Derived.Lib.TrimUEq
import Derived.Shelf.Unicode.ValidAny
namespace Go.Proofs.Ytidoofdofdhjpaa
open Go
set_option linter.unusedVariables false
end Go.Proofs.Ytidoofdofdhjpaa
namespace Go.Proofs.Ytidoofdofdhjpaa
open Go Go.RowKit
set_option linter.unusedVariables false
set_option maxRecDepth 100000
end Go.Proofs.Ytidoofdofdhjpaa
namespace Go.Proofs.Ytidoofdofdhjpaa
open Go
set_option linter.unusedVariables false
structure Nd where
 kind : Int
 a : Int := 0
 b : Int := 0
 lo : Int := 0
 hi : Int := 0
 cls : BitVec 256 := 0#256
 text : List UInt8 := []
deriving DecidableEq
def nd0 : Nd := { kind := 0 }
def atN (l : List Nd) (i : Nat) : Nd := l.getD i nd0
def backN (n : Nd) : Nd :=
 if n.kind = 1 then { kind := 1 }
 else if n.kind = 2 then { kind := 2, cls := n.cls }
 else if n.kind = 3 then { kind := 3, text := n.text }
 else if n.kind = 6 \/ n.kind = 8 \/ n.kind = 9 then { kind := n.kind, a := n.a }
 else if n.kind = 7 then { kind := 7, a := n.a, lo := n.lo, hi := n.hi }
 else if n.kind = 4 \/ n.kind = 5 then { kind := n.kind, a := n.a, b := n.b }
 else nd0
def textOk (t : List UInt8) : Bool := decide (t ≠ []) && utf8L t && decide ((34 : UInt8) ∉ t)
def partK (k : Int) : Prop := 4 <= k /\ k <= 9
instance (k : Int) : Decidable (partK k) := by unfold partK; infer_instance
def firstP (l : List Nd) (i : Nat) : Nat :=
 if h : partK (atN l i).kind /\ 0 <= (atN l i).a /\ (atN l i).a < (i : Int) then firstP l (atN l i).a.toNat else i
termination_by i
decreasing_by omega
theorem firstP_le (l : List Nd) (i : Nat) : firstP l i <= i := by
 induction i using Nat.strongRecOn with
 | ind i ih =>
  rw [firstP]
  split
  ·rename_i h
   have := ih (atN l i).a.toNat (by omega)
   omega
  ·exact Nat.le_refl _
theorem firstP_go {l : List Nd} {i : Nat} (h : partK (atN l i).kind) (h0 : 0 <= (atN l i).a) (h1 : (atN l i).a < (i : Int)) : firstP l i = firstP l (atN l i).a.toNat := by
 rw [firstP, dif_pos ⟨h, h0, h1⟩]
theorem firstP_stop {l : List Nd} {i : Nat} (h : ¬ (partK (atN l i).kind /\ 0 <= (atN l i).a /\ (atN l i).a < (i : Int))) : firstP l i = i := by
 rw [firstP, dif_neg h]
def okN (l : List Nd) (i : Nat) (n : Nd) : Prop :=
 backN n = n /\
 (n.kind = 1 \/ n.kind = 2 \/ (n.kind = 3 /\ textOk n.text = true) \/
 ((n.kind = 6 \/ n.kind = 8 \/ n.kind = 9) /\ 0 <= n.a /\ n.a = (i : Int) - 1) \/
 (n.kind = 7 /\ (0 <= n.a /\ n.a = (i : Int) - 1) /\ 0 <= n.lo /\ n.lo <= n.hi /\ n.hi <= 255) \/
 ((n.kind = 4 \/ n.kind = 5) /\ (0 <= n.b /\ n.b = (i : Int) - 1) /\ 0 <= n.a /\ n.a = (firstP l n.b.toNat : Int) - 1))
instance (l : List Nd) (i : Nat) (n : Nd) : Decidable (okN l i n) := by unfold okN; infer_instance
def fmd (l : List Nd) (i : Nat) : Bool := decide (okN l i (atN l i))
def Form (l : List Nd) : Prop := 0 < l.length /\ (∀ i, i < l.length -> okN l i (atN l i)) /\ firstP l (l.length - 1) = 0
theorem firstP_congr {l m : List Nd} : ∀ {i : Nat}, (∀ j, j <= i -> atN l j = atN m j) -> firstP l i = firstP m i := by
 intro i
 induction i using Nat.strongRecOn with
 | ind i ih =>
  intro h
  by_cases hc : partK (atN l i).kind /\ 0 <= (atN l i).a /\ (atN l i).a < (i : Int)
  ·have hc2 := hc
   rw [h i (Nat.le_refl _)] at hc2
   rw [firstP_go hc.1 hc.2.1 hc.2.2, firstP_go hc2.1 hc2.2.1 hc2.2.2, <- h i (Nat.le_refl _)]
   exact ih _ (by omega) (fun j hj => h j (by omega))
  ·have hc2 := hc
   rw [h i (Nat.le_refl _)] at hc2
   rw [firstP_stop hc, firstP_stop hc2]
theorem okN_congr {l m : List Nd} {i : Nat} (h : ∀ j, j <= i -> atN l j = atN m j) (n : Nd) : okN l i n ↔ okN m i n := by
 unfold okN
 by_cases hb : 0 <= n.b /\ n.b = (i : Int) - 1
 ·rw [firstP_congr (l := l) (m := m) (i := n.b.toNat) (fun j hj => h j (by omega))]
 ·simp [hb]
def wantOf (n : Nd) (i : Nat) (k : Int) : Nd :=
 if n.kind = 1 then { kind := 1 }
 else if n.kind = 2 then { kind := 2, cls := n.cls }
 else if n.kind = 3 then { kind := 3, text := n.text }
 else if n.kind = 7 then { kind := 7, a := (i : Int) - 1, lo := n.lo, hi := n.hi }
 else if n.kind = 4 \/ n.kind = 5 then { kind := n.kind, a := k - 1, b := (i : Int) - 1 }
 else { kind := n.kind, a := (i : Int) - 1 }
def refG (l : List Nd) : Nat -> Int
 | 0 => -1
 | i + 1 =>
  let n := atN l i
  if n.kind = 1 \/ n.kind = 2 then if n = wantOf n i 0 then (i : Int) else -1
  else if n.kind = 3 then if textOk n.text = true then (if n = wantOf n i 0 then (i : Int) else -1) else -1
  else if n.kind = 6 \/ n.kind = 7 \/ n.kind = 8 \/ n.kind = 9 then
   if n.kind = 7 /\ (n.lo < 0 \/ n.lo > n.hi \/ n.hi > 255) then -1
   else if n = wantOf n i 0 then refG l i else -1
  else if n.kind = 4 \/ n.kind = 5 then
   let k := refG l i
   if k < 0 then -1
   else if h : k.toNat <= i then (if n = wantOf n i k then refG l k.toNat else -1) else -1
  else -1
termination_by j => j
theorem refG_lt (l : List Nd) (j : Nat) : refG l j < (j : Int) /\ -1 <= refG l j := by
 induction j using Nat.strongRecOn with
 | ind j ih =>
  cases j with
  | zero => rw [refG]; omega
  | succ i =>
   rw [refG]
   simp only
   have h0 := ih i (by omega)
   split
   ·split <;> omega
   ·split
    ·split
     ·split <;> omega
     ·omega
    ·split
     ·split
      ·omega
      ·split <;> omega
     ·split
      ·split
       ·omega
       ·split
        ·rename_i hk
         have h1 := ih (refG l i).toNat (by omega)
         split <;> omega
        ·omega
      ·omega
theorem refG_ok (l : List Nd) : ∀ i, (∀ j, j <= i -> okN l j (atN l j)) -> refG l (i + 1) = (firstP l i : Int) := by
 intro i
 induction i using Nat.strongRecOn with
 | ind i ih =>
  intro h
  obtain ⟨hb, hk⟩ := h i (Nat.le_refl _)
  rw [refG]
  simp only
  generalize hn : atN l i = n at hb hk ⊢
  have stop : ¬ partK n.kind -> firstP l i = i := fun hp => firstP_stop (by rw [hn]; exact fun hh => hp hh.1)
  rcases hk with hk | hk | ⟨hk, ht⟩ | ⟨hk, h0, h1⟩ | ⟨hk, ⟨h0, h1⟩, h2, h3, h4⟩ | ⟨hk, ⟨h0, h1⟩, h2, h3⟩
  ·rw [if_pos (.inl hk), stop (by unfold partK; omega), if_pos]
   rw [<- hb]; unfold backN wantOf; simp [hk]
  ·rw [if_pos (.inr hk), stop (by unfold partK; omega), if_pos]
   rw [<- hb]; unfold backN wantOf; simp [hk]
  ·rw [if_neg (by omega), if_pos hk, if_pos ht, stop (by unfold partK; omega), if_pos]
   rw [<- hb]; unfold backN wantOf; simp [hk]
  ·rw [if_neg (by omega), if_neg (by omega), if_pos (by omega), if_neg (by omega), if_pos]
   ·rw [firstP_go (by rw [hn]; unfold partK; omega) (by rw [hn]; omega) (by rw [hn]; omega), hn]
    obtain ⟨i', rfl⟩ : ∃ i', i = i' + 1 := ⟨i - 1, by omega⟩
    rw [ih i' (by omega) (fun j hj => h j (by omega)), show n.a.toNat = i' by omega]
   ·rw [<- hb]; unfold backN wantOf
    rcases hk with hk | hk | hk <;> simp [hk] <;> exact h1
  ·rw [if_neg (by omega), if_neg (by omega), if_pos (by omega), if_neg (by omega), if_pos]
   ·rw [firstP_go (by rw [hn]; unfold partK; omega) (by rw [hn]; omega) (by rw [hn]; omega), hn]
    obtain ⟨i', rfl⟩ : ∃ i', i = i' + 1 := ⟨i - 1, by omega⟩
    rw [ih i' (by omega) (fun j hj => h j (by omega)), show n.a.toNat = i' by omega]
   ·rw [<- hb]; unfold backN wantOf; simp [hk]; exact h1
  ·obtain ⟨i', rfl⟩ : ∃ i', i = i' + 1 := ⟨i - 1, by omega⟩
   have hbn : n.b.toNat = i' := by omega
   rw [hbn] at h3
   have hle := firstP_le l i'
   rw [if_neg (by omega), if_neg (by omega), if_neg (by omega), if_pos hk, ih i' (by omega) (fun j hj => h j (by omega)), if_neg (by omega), dif_pos (by omega), if_pos]
   ·have hf : firstP l (i' + 1) = firstP l n.a.toNat := by
     rw [firstP_go (by rw [hn]; unfold partK; omega) (by rw [hn]; omega) (by rw [hn]; omega), hn]
    obtain ⟨k, hk2⟩ : ∃ k, firstP l i' = k + 1 := ⟨firstP l i' - 1, by omega⟩
    rw [hf, hk2, Int.toNat_natCast, ih k (by omega) (fun j hj => h j (by omega)), show n.a.toNat = k by omega]
   ·rw [<- hb]; unfold backN wantOf
    rcases hk with hk | hk <;> simp [hk] <;> exact ⟨h3, by omega⟩
theorem refG_back (l : List Nd) : ∀ i, 0 <= refG l (i + 1) -> refG l (i + 1) = (firstP l i : Int) /\ ∀ j, firstP l i <= j -> j <= i -> okN l j (atN l j) := by
 intro i
 induction i using Nat.strongRecOn with
 | ind i ih =>
  intro h
  rw [refG] at h ⊢
  simp only at h ⊢
  generalize hn : atN l i = n at h ⊢
  have stop : ¬ partK n.kind -> firstP l i = i := fun hp => firstP_stop (by rw [hn]; exact fun hh => hp hh.1)
  by_cases c1 : n.kind = 1 \/ n.kind = 2
  ·rw [if_pos c1] at h ⊢
   by_cases hw : n = wantOf n i 0
   ·rw [if_pos hw, stop (by unfold partK; omega)]
    refine ⟨rfl, fun j hj1 hj2 => ?_⟩
    obtain rfl : j = i := by omega
    rw [hn]
    refine ⟨?_, by rcases c1 with c | c <;> simp [c]⟩
    conv => rhs; rw [hw]
    unfold backN wantOf; rcases c1 with c | c <;> simp [c]
   ·rw [if_neg hw] at h; omega
  rw [if_neg c1] at h ⊢
  by_cases c2 : n.kind = 3
  ·rw [if_pos c2] at h ⊢
   by_cases ht : textOk n.text = true
   ·rw [if_pos ht] at h ⊢
    by_cases hw : n = wantOf n i 0
    ·rw [if_pos hw, stop (by unfold partK; omega)]
     refine ⟨rfl, fun j hj1 hj2 => ?_⟩
     obtain rfl : j = i := by omega
     rw [hn]
     refine ⟨?_, by simp [c2, ht]⟩
     conv => rhs; rw [hw]
     unfold backN wantOf; simp [c2]
    ·rw [if_neg hw] at h; omega
   ·rw [if_neg ht] at h; omega
  rw [if_neg c2] at h ⊢
  by_cases c3 : n.kind = 6 \/ n.kind = 7 \/ n.kind = 8 \/ n.kind = 9
  ·rw [if_pos c3] at h ⊢
   by_cases c4 : n.kind = 7 /\ (n.lo < 0 \/ n.lo > n.hi \/ n.hi > 255)
   ·rw [if_pos c4] at h; omega
   rw [if_neg c4] at h ⊢
   by_cases hw : n = wantOf n i 0
   ·rw [if_pos hw] at h ⊢
    have hna : n.a = (i : Int) - 1 := by
     rw [hw]; unfold wantOf
     rcases c3 with c | c | c | c <;> simp [c]
    cases i with
    | zero => rw [refG] at h; omega
    | succ i' =>
     obtain ⟨h1, h2⟩ := ih i' (by omega) h
     have hf : firstP l (i' + 1) = firstP l i' := by
      rw [firstP_go (by rw [hn]; unfold partK; omega) (by rw [hn]; omega) (by rw [hn]; omega), hn, show n.a.toNat = i' by omega]
     rw [hf]
     refine ⟨h1, fun j hj1 hj2 => ?_⟩
     by_cases hj : j = i' + 1
     ·subst hj
      rw [hn]
      refine ⟨?_, by omega⟩
      conv => rhs; rw [hw]
      unfold backN wantOf
      rcases c3 with c | c | c | c <;> simp [c, hna]
     ·exact h2 j hj1 (by omega)
   ·rw [if_neg hw] at h; omega
  rw [if_neg c3] at h ⊢
  by_cases c4 : n.kind = 4 \/ n.kind = 5
  ·rw [if_pos c4] at h ⊢
   by_cases hk0 : refG l i < 0
   ·rw [if_pos hk0] at h; omega
   rw [if_neg hk0] at h ⊢
   have hlt := (refG_lt l i).1
   rw [dif_pos (by omega)] at h ⊢
   by_cases hw : n = wantOf n i (refG l i)
   ·rw [if_pos hw] at h ⊢
    have hna : n.a = refG l i - 1 := by
     rw [hw]; unfold wantOf
     rcases c4 with c | c <;> simp [c]
    have hnb : n.b = (i : Int) - 1 := by
     rw [hw]; unfold wantOf
     rcases c4 with c | c <;> simp [c]
    cases i with
    | zero => rw [refG] at hk0; omega
    | succ i' =>
     obtain ⟨h1, h2⟩ := ih i' (by omega) (by omega)
     have hle := firstP_le l i'
     rw [h1, Int.toNat_natCast] at h ⊢
     rw [h1] at hna
     cases hfp : firstP l i' with
     | zero => rw [hfp] at h; rw [refG] at h; omega
     | succ k =>
      rw [hfp] at h hna hle
      obtain ⟨g1, g2⟩ := ih k (by omega) h
      have hf : firstP l (i' + 1) = firstP l k := by
       rw [firstP_go (by rw [hn]; unfold partK; omega) (by rw [hn]; omega) (by rw [hn]; omega), hn, show n.a.toNat = k by omega]
      have hlek := firstP_le l k
      rw [hf]
      refine ⟨g1, fun j hj1 hj2 => ?_⟩
      by_cases hj : j = i' + 1
      ·subst hj
       rw [hn]
       refine ⟨?_, ?_⟩
       ·conv => rhs; rw [hw]
        unfold backN wantOf
        rcases c4 with c | c <;> simp [c, hna, hnb, h1, hfp]
       ·refine .inr (.inr (.inr (.inr (.inr ⟨c4, by omega, by omega, ?_⟩))))
        rw [show n.b.toNat = i' by omega, hfp]; omega
      ·by_cases hjk : j <= k
       ·exact g2 j hj1 hjk
       ·exact h2 j (by omega) (by omega)
   ·rw [if_neg hw] at h; omega
  ·rw [if_neg c4] at h; omega
theorem form_ref (l : List Nd) : Form l ↔ 0 < l.length /\ refG l l.length = 0 := by
 constructor
 ·rintro ⟨h0, h1, h2⟩
  refine ⟨h0, ?_⟩
  have := refG_ok l (l.length - 1) (fun j hj => h1 j (by omega))
  rw [show l.length - 1 + 1 = l.length by omega, h2] at this
  exact this
 ·rintro ⟨h0, h1⟩
  have h2 := refG_back l (l.length - 1)
  rw [show l.length - 1 + 1 = l.length by omega, h1] at h2
  obtain ⟨h3, h4⟩ := h2 (Int.le_refl _)
  have h5 : firstP l (l.length - 1) = 0 := by omega
  rw [h5] at h4
  exact ⟨h0, fun i hi => h4 i (Nat.zero_le _) (by omega), h5⟩
end Go.Proofs.Ytidoofdofdhjpaa
namespace Go.Proofs.Ytidoofdofdhjpaa
open Go Go.RowKit
set_option linter.unusedVariables false
def ndC (n : Nd) : Array Value := #[.int .i64 n.kind, .int .i64 n.a, .int .i64 n.b, .int .i64 n.lo, .int .i64 n.hi, .int .u64 (wd n.cls 0), .int .u64 (wd n.cls 1), .int .u64 (wd n.cls 2), .int .u64 (wd n.cls 3), .string (bs n.text)]
def z10 : Array Value := #[.int .i64 0, .int .i64 0, .int .i64 0, .int .i64 0, .int .i64 0, .int .u64 0, .int .u64 0, .int .u64 0, .int .u64 0, .string ⟨#[]⟩]
theorem Blk.put10 {w : World} {b : Nat} {t : TypeId} {vs : Array Value} (h : Blk w b vs t) {o : Nat} (ho : o < vs.size) (v : Value) : (w.setCell ⟨b, o, none⟩ v).cell? ⟨b, o, none⟩ = some v := by
 rw [(h.setCell o v).cell o]; simp [ho]
section
variable {w : World} {b : Nat} {t : TypeId} {c0 c1 c2 c3 c4 c5 c6 c7 c8 c9 : Value}
theorem ten_cells (h : Blk w b #[c0, c1, c2, c3, c4, c5, c6, c7, c8, c9] t) :
 w.cell? ⟨b, 0, none⟩ = some c0 /\ w.cell? ⟨b, 1, none⟩ = some c1 /\ w.cell? ⟨b, 2, none⟩ = some c2 /\ w.cell? ⟨b, 3, none⟩ = some c3 /\ w.cell? ⟨b, 4, none⟩ = some c4 /\ w.cell? ⟨b, 5, none⟩ = some c5 /\ w.cell? ⟨b, 6, none⟩ = some c6 /\ w.cell? ⟨b, 7, none⟩ = some c7 /\ w.cell? ⟨b, 8, none⟩ = some c8 /\ w.cell? ⟨b, 9, none⟩ = some c9 :=
 ⟨h.cell 0, h.cell 1, h.cell 2, h.cell 3, h.cell 4, h.cell 5, h.cell 6, h.cell 7, h.cell 8, h.cell 9⟩
end
set_option linter.unusedSimpArgs false
end Go.Proofs.Ytidoofdofdhjpaa
