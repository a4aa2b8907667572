/- Words, opened as arguments: for seats of plain rows. -/
import Derived.Test.YtidoofdofdhjpaaM08
import Derived.Test.YtidoofdofdhjpaaM10
import Derived.Test.YtidoofdofdhjpaaM04
import Derived.Test.YtidoofdofdhjpaaM07
import Derived.Test.YtidoofdofdhjpaaM03
import Derived.Laws.AppendOwn
import Derived.Laws.StructEq
import Derived.Deep.RegionHeld3
import Derived.Sort.Grow
import Derived.Deep.Draws
namespace Go.Proofs.Ytidoofdofdhjpaa
open Go Go.RowKit Go.ChangeShapes Go.WideShapes Go.ChangeAt Go.Joins
set_option maxRecDepth 100000
set_option linter.unusedVariables false
set_option linter.unusedSimpArgs false
theorem wd_byte {a : Int} (h : (Lit.int .u8 a).wf = true) : ∃ n : Nat, a = n /\ n < 256 := by
 have : 0 <= a /\ a <= 255 := by simpa [Lit.wf, IntKind.min, IntKind.max, IntKind.signed, IntKind.bits] using h
 exact ⟨a.toNat, by omega, by omega⟩
def WdA (w : World) (A : Option Addr) (C : Nat) (W : List UInt8) : Prop := W.length <= C /\ (W.length <= 1073741824 -> IsW W (.slice A W.length C) w)
section
variable {H : Type} {enc : TypeId × Value -> H} {W : World} {base : Nat} {v : Value} {d : DataW H} {p : List MemPlace}
theorem open_wd (hv : Value.okWide Try.prog W .any base 48 v) (h : DataW.Trod enc Try.prog W 0 (fun _ => true) true 48 v d p) :
 ∃ (l : List UInt8) (A : Option Addr) (C : Nat), v = .slice A l.length C /\ WdA W A C l /\ l.length <= 9223372036854775807 := by
 have hv0 := hv
 obtain ⟨a0, len, cap, rfl⟩ := okWide_slice Try.underlying48 hv
 obtain ⟨fuel, hf⟩ := h
 rcases open_ints Try.underlying48 Try.underlying5 (by kernel_rfl) hf with ⟨hcs, _⟩ | ⟨x, l, c, zs, hcs, _, hl, hm, hz, _, hcell, hwz⟩
 ·simp [Value.cells] at hcs
  obtain ⟨rfl, rfl, rfl⟩ := hcs
  exact ⟨[], none, 0, rfl, ⟨Nat.le_refl _, fun _ => .inl ⟨rfl, rfl⟩⟩, by simp⟩
 ·simp [Value.cells] at hcs
  obtain ⟨rfl, rfl, rfl⟩ := hcs
  have hz' : zs.length = cap := by simpa using hz
  unfold maxLen at hm
  have hm2 : zs.length <= 9223372036854775807 := by omega
  obtain ⟨b, off, spot⟩ := x
  have hh : spot = none /\ b < W.heap.size := by
   simp only [Value.okWide, Try.underlying48, Cell.okWide, Cell.ok, World.has] at hv0
   obtain ⟨-, -, -, h2, row, cells, h3, -⟩ := hv0
   refine ⟨h2, ?_⟩
   apply Classical.byContradiction
   intro hlt
   have : W.heap[b]? = none := Array.getElem?_eq_none (by omega)
   simp [World.shape?, this] at h3
  obtain ⟨rfl, hblt⟩ := hh
  have hlen : ((zs.take len).map fun z => UInt8.ofNat z.toNat).length = len := by simp; omega
  refine ⟨(zs.take len).map fun z => UInt8.ofNat z.toNat, some ⟨b, off, none⟩, cap, by rw [hlen], ⟨by rw [hlen]; exact hl, fun hs => .inr ⟨b, off, cap, rfl, by rw [hlen]; exact hl, hs, hblt, fun i hi => ?_⟩⟩, by rw [hlen]; omega⟩
  rw [hlen] at hi
  have hc := hcell i (by omega)
  have h1 : i < zs.length := by omega
  have hz1 : zs.getD i 0 ∈ zs := by rw [List.getD_eq_getElem?_getD, List.getElem?_eq_getElem h1]; exact List.getElem_mem _
  obtain ⟨n, hn1, hn2⟩ := wd_byte (hwz _ hz1)
  have ha : (⟨b, off, none⟩ : Addr).add i = ⟨b, off + i, none⟩ := by
   cases i with
   | zero => simp [Addr.add]
   | succ i => simp [Addr.add]
  rw [ha] at hc
  rw [hc]
  have hg : ((zs.take len).map fun z => UInt8.ofNat z.toNat).getD i 0 = UInt8.ofNat n := by
   rw [List.getD_eq_getElem?_getD, List.getElem?_map, List.getElem?_take, if_pos hi]
   rw [List.getD_eq_getElem?_getD] at hn1
   rw [List.getElem?_eq_getElem h1] at hn1 ⊢
   simp at hn1 ⊢
   rw [hn1]; rfl
  rw [hg, hn1]
  have : (UInt8.ofNat n).toNat = n := by simp; omega
  rw [this]
end
end Go.Proofs.Ytidoofdofdhjpaa
namespace Go.Proofs.Ytidoofdofdhjpaa
open Go
set_option linter.unusedVariables false
set_option linter.unusedSimpArgs false
structure Itm where
 kind : Int
 node : Int
 lo : Int
 hi : Int
deriving DecidableEq
def it0 : Itm := ⟨0, 0, 0, 0⟩
def itL (x : Itm) : List Int := [x.kind, x.node, x.lo, x.hi]
def itsL : List Itm -> List Int
 | [] => []
 | x :: l => itL x ++ itsL l
theorem itsL_length : ∀ l, (itsL l).length = l.length * 4
 | [] => rfl
 | x :: l => by rw [itsL, List.length_append, itsL_length l, List.length_cons]; show 4 + _ = _; omega
theorem itsL_append : ∀ l m, itsL (l ++ m) = itsL l ++ itsL m
 | [], m => rfl
 | x :: l, m => by show itL x ++ itsL (l ++ m) = _; rw [itsL_append l m, itsL, List.append_assoc]
theorem itL_inj {x y : Itm} (h : itL x = itL y) : x = y := by
 obtain ⟨a, b, c, d⟩ := x; obtain ⟨e, f, g, i⟩ := y
 simp only [itL, List.cons.injEq, and_true] at h
 obtain ⟨rfl, rfl, rfl, rfl⟩ := h; rfl
theorem itsL_inj : ∀ {l m : List Itm}, itsL l = itsL m -> l = m
 | [], [], _ => rfl
 | [], y :: m, h => by simp [itsL, itL] at h
 | x :: l, [], h => by simp [itsL, itL] at h
 | x :: l, y :: m, h => by
  have h1 : itL x = itL y /\ itsL l = itsL m := List.append_inj h rfl
  rw [itL_inj h1.1, itsL_inj h1.2]
def lexC : List Int -> List Int -> Int
 | [], _ => 0
 | _ :: _, [] => 0
 | x :: l, y :: m => if x < y then -1 else if y < x then 1 else lexC l m
theorem lexC_nil (m : List Int) : lexC [] m = 0 := by cases m <;> rfl
theorem lexC_nil2 (m : List Int) : lexC m [] = 0 := by cases m <;> rfl
theorem lexC_cons (x y : Int) (l m : List Int) : lexC (x :: l) (y :: m) = if x < y then -1 else if y < x then 1 else lexC l m := rfl
theorem lexC_self : ∀ l, lexC l l = 0
 | [] => rfl
 | x :: l => by rw [lexC_cons, if_neg (by omega), if_neg (by omega), lexC_self l]
theorem lexC_neg : ∀ l m, lexC l m = - lexC m l
 | [], m => by rw [lexC_nil, lexC_nil2]; rfl
 | x :: l, [] => rfl
 | x :: l, y :: m => by
  rw [lexC_cons, lexC_cons, lexC_neg l m]
  by_cases h : x < y
  ·rw [if_pos h, if_neg (by omega), if_pos h]
  ·by_cases h2 : y < x
   ·rw [if_neg h, if_pos h2, if_pos h2]; rfl
   ·rw [if_neg h, if_neg h2, if_neg h2, if_neg h]
theorem lexC_three (l m : List Int) : lexC l m = -1 \/ lexC l m = 0 \/ lexC l m = 1 := by
 induction l generalizing m with
 | nil => right; left; exact lexC_nil m
 | cons x l ih =>
  cases m with
  | nil => right; left; rfl
  | cons y m =>
   rw [lexC_cons]
   by_cases h : x < y
   ·left; rw [if_pos h]
   ·by_cases h2 : y < x
    ·right; right; rw [if_neg h, if_pos h2]
    ·rw [if_neg h, if_neg h2]; exact ih m
theorem lexC_trans : ∀ l m n, lexC l m = -1 -> lexC m n = -1 -> lexC l n = -1
 | [], m, n, h, _ => by rw [lexC_nil] at h; omega
 | x :: l, [], n, h, _ => by rw [lexC_nil2] at h; omega
 | x :: l, y :: m, [], _, h => by rw [lexC_nil2] at h; omega
 | x :: l, y :: m, z :: n, h, k => by
  rw [lexC_cons] at h k ⊢
  by_cases h1 : x < y
  ·by_cases k1 : y < z
   ·rw [if_pos (by omega)]
   ·rw [if_neg k1] at k
    by_cases k2 : z < y
    ·rw [if_pos k2] at k; omega
    ·rw [if_pos (by omega)]
  ·rw [if_neg h1] at h
   by_cases h2 : y < x
   ·rw [if_pos h2] at h; omega
   ·rw [if_neg h2] at h
    by_cases k1 : y < z
    ·rw [if_pos (by omega)]
    ·rw [if_neg k1] at k
     by_cases k2 : z < y
     ·rw [if_pos k2] at k; omega
     ·rw [if_neg k2] at k
      rw [if_neg (by omega), if_neg (by omega)]
      exact lexC_trans l m n h k
theorem lexC_zero : ∀ l m, l.length = m.length -> (lexC l m = 0 ↔ l = m)
 | [], [], _ => by simp [lexC]
 | [], y :: m, h => by simp at h
 | x :: l, [], h => by simp at h
 | x :: l, y :: m, h => by
  have ih := lexC_zero l m (by simpa using h)
  rw [lexC_cons]
  by_cases h1 : x < y
  ·rw [if_pos h1]; constructor
   ·intro h; omega
   ·intro h; injection h; omega
  ·by_cases h2 : y < x
   ·rw [if_neg h1, if_pos h2]; constructor
    ·intro h; omega
    ·intro h; injection h; omega
   ·rw [if_neg h1, if_neg h2, ih]
    obtain rfl : x = y := by omega
    simp
theorem lexC_app : ∀ l m r s, l.length = m.length -> lexC (l ++ r) (m ++ s) = if lexC l m = 0 then lexC r s else lexC l m
 | [], [], r, s, _ => by simp [lexC]
 | [], y :: m, r, s, h => by simp at h
 | x :: l, [], r, s, h => by simp at h
 | x :: l, y :: m, r, s, h => by
  have ih := lexC_app l m r s (by simpa using h)
  rw [List.cons_append, List.cons_append, lexC_cons, lexC_cons, ih]
  by_cases h1 : x < y
  ·rw [if_pos h1, if_pos h1, if_neg (by omega)]
  ·by_cases h2 : y < x
   ·rw [if_neg h1, if_pos h2, if_neg h1, if_pos h2, if_neg (by omega)]
   ·rw [if_neg h1, if_neg h2, if_neg h1, if_neg h2]
def itC (x y : Itm) : Int := lexC (itL x) (itL y)
def numL (l : List Itm) : List Int := (l.length : Int) :: itsL l
def stC (a b : List Itm) : Int := lexC (numL a) (numL b)
theorem stC_len {a b : List Itm} (h : a.length < b.length) : stC a b = -1 := by unfold stC numL; rw [lexC_cons, if_pos (by omega)]
theorem stC_len2 {a b : List Itm} (h : b.length < a.length) : stC a b = 1 := by unfold stC numL; rw [lexC_cons, if_neg (by omega), if_pos (by omega)]
theorem stC_same {a b : List Itm} (h : a.length = b.length) : stC a b = lexC (itsL a) (itsL b) := by unfold stC numL; rw [lexC_cons, if_neg (by omega), if_neg (by omega)]
theorem stC_self (a : List Itm) : stC a a = 0 := lexC_self _
theorem stC_neg (a b : List Itm) : stC a b = - stC b a := lexC_neg _ _
theorem stC_three (a b : List Itm) : stC a b = -1 \/ stC a b = 0 \/ stC a b = 1 := lexC_three _ _
theorem stC_trans {a b c : List Itm} (h : stC a b = -1) (k : stC b c = -1) : stC a c = -1 := lexC_trans _ _ _ h k
theorem stC_zero (a b : List Itm) : stC a b = 0 ↔ a = b := by
 rcases Nat.lt_trichotomy a.length b.length with h | h | h
 ·rw [stC_len h]; constructor
  ·intro e; omega
  ·rintro rfl; omega
 ·rw [stC_same h, lexC_zero _ _ (by rw [itsL_length, itsL_length, h])]
  exact ⟨itsL_inj, fun e => by rw [e]⟩
 ·rw [stC_len2 h]; constructor
  ·intro e; omega
  ·rintro rfl; omega
theorem itC_zero (x y : Itm) : itC x y = 0 ↔ x = y := by
 unfold itC; rw [lexC_zero (itL x) (itL y) rfl]; exact ⟨itL_inj, fun e => by rw [e]⟩
theorem lexC_step {a b : List Itm} {k : Nat} (hl : a.length = b.length) (hk : k < a.length) (h : a.take k = b.take k) :
 lexC (itsL a) (itsL b) = if itC (a.getD k it0) (b.getD k it0) = 0 then lexC (itsL (a.drop (k + 1))) (itsL (b.drop (k + 1))) else itC (a.getD k it0) (b.getD k it0) := by
 have h1 : ∀ (l : List Itm), k < l.length -> l = l.take k ++ (l.getD k it0 :: l.drop (k + 1)) := fun l hl => by
  have := (List.take_append_drop k l).symm
  rw [List.drop_eq_getElem_cons hl] at this
  rw [List.getD_eq_getElem?_getD, List.getElem?_eq_getElem hl]; exact this
 have ha := h1 a hk
 have hb := h1 b (by omega)
 generalize a.getD k it0 = x at *
 generalize b.getD k it0 = y at *
 rw [show itsL a = itsL (a.take k) ++ (itL x ++ itsL (a.drop (k + 1))) by rw [ha]; simp only [itsL_append, itsL]; rw [<- ha],
  show itsL b = itsL (b.take k) ++ (itL y ++ itsL (b.drop (k + 1))) by rw [hb]; simp only [itsL_append, itsL]; rw [<- hb],
  h, lexC_app _ _ _ _ rfl, lexC_self, if_pos rfl, lexC_app (itL x) (itL y) _ _ rfl]
 rfl
theorem stC_other {a b : List Itm} {k : Nat} (hl : a.length = b.length) (hk : k < a.length) (h : a.take k = b.take k) (he : itC (a.getD k it0) (b.getD k it0) ≠ 0) : stC a b = itC (a.getD k it0) (b.getD k it0) := by
 rw [stC_same hl, lexC_step hl hk h, if_neg he]
def cmpI (a b : Int) : Int := if a < b then -1 else if b < a then 1 else 0
def orI (a b : Int) : Int := if a = 0 then b else a
theorem lexC_or (x y : Int) (l m : List Int) : lexC (x :: l) (y :: m) = orI (cmpI x y) (lexC l m) := by
 rw [lexC_cons]; unfold orI cmpI
 by_cases h1 : x < y
 ·simp [h1]
 ·by_cases h2 : y < x
  ·simp [h1, h2]
  ·simp [h1, h2]
theorem itC_or (x y : Itm) : itC x y = orI (cmpI x.kind y.kind) (orI (cmpI x.node y.node) (orI (cmpI x.lo y.lo) (cmpI x.hi y.hi))) := by
 unfold itC itL; rw [lexC_or, lexC_or, lexC_or, lexC_or]
 congr 3; unfold orI lexC; split <;> simp_all
def zig (n : Int) : Nat := if 0 <= n then (2 * n).toNat else (-2 * n - 1).toNat
theorem zig_inj {a b : Int} (h : zig a = zig b) : a = b := by
 unfold zig at h
 split at h <;> split at h <;> omega
def numB (r : Nat) : List Nat := if h : r < 64 then [r] else (64 + r % 64) :: numB (r / 64)
decreasing_by omega
theorem numB_short {r : Nat} (h : r < 64) : numB r = [r] := by rw [numB]; simp [h]
theorem numB_long {r : Nat} (h : ¬ r < 64) : numB r = (64 + r % 64) :: numB (r / 64) := by rw [numB]; simp [h]
theorem numB_inj (r : Nat) : ∀ s x y, numB r ++ x = numB s ++ y -> r = s /\ x = y := by
 induction r using Nat.strongRecOn with
 | ind r ih =>
  intro s x y h
  by_cases hr : r < 64
  ·rw [numB_short hr] at h
   by_cases hs : s < 64
   ·rw [numB_short hs] at h
    simp only [List.cons_append, List.nil_append, List.cons.injEq] at h; exact h
   ·rw [numB_long hs] at h
    simp only [List.cons_append, List.nil_append, List.cons.injEq] at h; omega
  ·rw [numB_long hr] at h
   by_cases hs : s < 64
   ·rw [numB_short hs] at h
    simp only [List.cons_append, List.nil_append, List.cons.injEq] at h; omega
   ·rw [numB_long hs] at h
    simp only [List.cons_append, List.cons.injEq] at h
    obtain ⟨h1, h2⟩ := ih (r / 64) (by omega) (s / 64) x y h.2
    exact ⟨by omega, h2⟩
theorem numB_lt (r : Nat) : ∀ b ∈ numB r, b < 128 := by
 induction r using Nat.strongRecOn with
 | ind r ih =>
  by_cases hr : r < 64
  ·rw [numB_short hr]; intro b hb; simp at hb; omega
  ·rw [numB_long hr]; intro b hb
   rcases List.mem_cons.1 hb with rfl | hb
   ·omega
   ·exact ih _ (by omega) b hb
theorem numB_len {r : Nat} (h : r < 2 ^ 64) : (numB r).length <= 11 := by
 have : ∀ k r, r < 64 ^ (k + 1) -> (numB r).length <= k + 1 := by
  intro k
  induction k with
  | zero => intro r hr; rw [numB_short (by omega)]; simp
  | succ k ih =>
   intro r hr
   by_cases h : r < 64
   ·rw [numB_short h]; simp
   ·rw [numB_long h, List.length_cons]
    have := ih (r / 64) (by rw [Nat.div_lt_iff_lt_mul (by omega)]; rw [Nat.pow_succ] at hr; exact hr)
    omega
 exact this 10 r (by omega)
def keyN : List Int -> List Nat
 | [] => []
 | n :: l => numB (zig n) ++ keyN l
theorem numB_ne (r : Nat) : numB r ≠ [] := by
 by_cases hr : r < 64
 ·rw [numB_short hr]; simp
 ·rw [numB_long hr]; simp
theorem keyN_inj : ∀ {l m : List Int}, keyN l = keyN m -> l = m
 | [], [], _ => rfl
 | [], y :: m, h => by
  have := congrArg List.length h
  have := List.length_pos_iff.2 (numB_ne (zig y))
  simp only [keyN, List.length_append, List.length_nil] at *; omega
 | x :: l, [], h => by
  have := congrArg List.length h
  have := List.length_pos_iff.2 (numB_ne (zig x))
  simp only [keyN, List.length_append, List.length_nil] at *; omega
 | x :: l, y :: m, h => by
  obtain ⟨h1, h2⟩ := numB_inj _ _ _ _ h
  rw [zig_inj h1, keyN_inj h2]
theorem keyN_append : ∀ l m, keyN (l ++ m) = keyN l ++ keyN m
 | [], m => rfl
 | x :: l, m => by show numB (zig x) ++ keyN (l ++ m) = _; rw [keyN_append l m, keyN, List.append_assoc]
theorem keyN_lt : ∀ (l : List Int), ∀ b ∈ keyN l, b < 128
 | [], b, h => by cases h
 | x :: l, b, h => by
  rcases List.mem_append.1 h with h | h
  ·exact numB_lt _ b h
  ·exact keyN_lt l b h
def bytN (l : List Nat) : List UInt8 := l.map UInt8.ofNat
theorem bytN_inj {l m : List Nat} (hl : ∀ b ∈ l, b < 128) (hm : ∀ b ∈ m, b < 128) (h : bytN l = bytN m) : l = m := by
 unfold bytN at h
 have key : ∀ (l : List Nat), (∀ b ∈ l, b < 128) -> (l.map UInt8.ofNat).map UInt8.toNat = l := by
  intro l hl
  rw [List.map_map]
  conv => rhs; rw [<- List.map_id l]
  apply List.map_congr_left
  intro b hb
  have := hl b hb
  show (UInt8.ofNat b).toNat = b
  rw [UInt8.toNat_ofNat']; omega
 rw [<- key l hl, <- key m hm, h]
def keyI (l : List Int) : List UInt8 := bytN (keyN l)
def stK (a : List Itm) : List UInt8 := keyI (itsL a)
theorem keyI_append (l m : List Int) : keyI (l ++ m) = keyI l ++ keyI m := by unfold keyI bytN; rw [keyN_append, List.map_append]
theorem keyI_snoc (l : List Int) (n : Int) : keyI (l ++ [n]) = keyI l ++ bytN (numB (zig n)) := by
 rw [keyI_append]; congr 1; unfold keyI keyN; rw [keyN, List.append_nil]
theorem stK_inj {a b : List Itm} : stK a = stK b ↔ a = b :=
 ⟨fun h => itsL_inj (keyN_inj (bytN_inj (keyN_lt _) (keyN_lt _) h)), fun e => by rw [e]⟩
def lowI (x : Itm) : Itm := if x.kind = 5 then { x with lo := x.lo - 1 } else x
def maylow (x : Itm) : Bool := !(decide (x.kind = 5) && decide (x.lo <= 0))
def lowS (l : List Itm) : Option (List Itm) := if l.all maylow then some (l.map lowI) else none
def itF (l : List Nd) (x : Itm) : Bool :=
 if x.kind = 5 then decide (x.node = 0) && decide (0 <= x.lo) && decide (x.lo <= 65535) && decide (x.hi = 0)
 else if x.node < 0 \/ (l.length : Int) <= x.node then false
 else
  let n := atN l x.node.toNat
  if x.kind = 1 then decide (x.lo = 0) && decide (x.hi = 0)
  else if x.kind = 2 then decide (n.kind = 7) && decide (0 <= x.lo) && decide (x.lo <= x.hi) && decide (x.hi <= n.hi)
  else if x.kind = 3 then decide (n.kind = 3) && decide (0 <= x.lo) && decide (x.lo < (n.text.length : Int)) && decide (x.hi = 0)
  else if x.kind = 4 then decide (n.kind = 9) && decide (0 <= x.lo) && decide (x.lo <= 255) && decide (x.hi = 0)
  else false
def stF (l : List Nd) (s : List Itm) : Bool := s.all (itF l)
end Go.Proofs.Ytidoofdofdhjpaa
namespace Go.Proofs.Ytidoofdofdhjpaa
open Go Go.RowKit
set_option linter.unusedVariables false
set_option linter.unusedSimpArgs false
def itV (p : Itm) : Array Value := #[.int .i64 p.kind, .int .i64 p.node, .int .i64 p.lo, .int .i64 p.hi]
def flatIt : List Itm -> List Value
 | [] => []
 | t :: l => (itV t).toList ++ flatIt l
theorem itV_size (t : Itm) : (itV t).toList.length = 4 := rfl
theorem flatIt_length : ∀ l, (flatIt l).length = l.length * 4
 | [] => rfl
 | t :: l => by rw [flatIt, List.length_append, flatIt_length l, itV_size, List.length_cons]; omega
theorem flatIt_append : ∀ l m, flatIt (l ++ m) = flatIt l ++ flatIt m
 | [], m => rfl
 | t :: l, m => by show (itV t).toList ++ flatIt (l ++ m) = _; rw [flatIt_append l m, flatIt, List.append_assoc]
theorem flatIt_get : ∀ (l : List Itm) (i j : Nat), i < l.length -> j < 4 -> (flatIt l)[i * 4 + j]? = (itV (l.getD i it0))[j]?
 | [], i, j, h, _ => by simp at h
 | s :: l, 0, j, _, hj => by
  rw [flatIt, List.getElem?_append_left (by rw [itV_size]; omega)]
  simp
 | s :: l, i + 1, j, hi, hj => by
  have ih := flatIt_get l i j (by simpa using hi) hj
  show ((itV s).toList ++ flatIt l)[(i + 1) * 4 + j]? = _
  rw [List.getElem?_append_right (by rw [itV_size]; omega), itV_size, show (i + 1) * 4 + j - 4 = i * 4 + j by omega, ih]
  simp
theorem flatIt_ones : ∀ (l : List Itm) (u : Value), u ∈ flatIt l -> u.oneCell' = true
 | [], u, h => by cases h
 | t :: l, u, h => by
  rw [flatIt, List.mem_append] at h
  rcases h with h | h
  ·simp [itV] at h
   rcases h with rfl | rfl | rfl | rfl <;> rfl
  ·exact flatIt_ones l u h
def ItRow (w : World) (a : Option Addr) (l : List Itm) : Prop :=
 ∀ i, i < l.length -> ∃ b off, a = some ⟨b, off, none⟩ /\ b < w.heap.size /\ ∀ j, j < 4 -> w.cell? ⟨b, off + i * 4 + j, none⟩ = (itV (l.getD i it0))[j]?
theorem ItRow.later {w w' : World} {a : Option Addr} {l : List Itm} (h : ItRow w a l) (hb : Below w.heap.size w w') : ItRow w' a l := fun i hi => by
 obtain ⟨b, off, ha, hlt, hc⟩ := h i hi
 exact ⟨b, off, ha, Nat.lt_of_lt_of_le hlt hb.size, fun j hj => (hb.cell (p := ⟨b, off + i * 4 + j, none⟩) hlt).trans (hc j hj)⟩
theorem ItRow.nil (w : World) (a : Option Addr) : ItRow w a [] := fun i hi => by simp at hi
def At4 (w : World) (b o : Nat) (x : Itm) : Prop := w.cell? ⟨b, o, none⟩ = some (.int .i64 x.kind) /\ w.cell? ⟨b, o + 1, none⟩ = some (.int .i64 x.node) /\ w.cell? ⟨b, o + 2, none⟩ = some (.int .i64 x.lo) /\ w.cell? ⟨b, o + 3, none⟩ = some (.int .i64 x.hi)
theorem ItRow.at {w : World} {A : Option Addr} {a : List Itm} (h : ItRow w A a) {i : Nat} (hi : i < a.length) {b o : Nat} (hA : A = some ⟨b, o, none⟩) : At4 w b (o + i * 4) (a.getD i it0) := by
 obtain ⟨b', o', h1, _, h2⟩ := h i hi
 rw [hA] at h1; cases h1
 exact ⟨h2 0 (by omega), h2 1 (by omega), h2 2 (by omega), h2 3 (by omega)⟩
theorem ItRow.four {w : World} {A : Option Addr} {a : List Itm} (h : ItRow w A a) {i : Nat} (hi : i < a.length) : ∃ b o, A = some ⟨b, o, none⟩ /\ b < w.heap.size /\ At4 w b (o + i * 4) (a.getD i it0) := by
 obtain ⟨b, o, h1, h2, -⟩ := h i hi
 exact ⟨b, o, h1, h2, h.at hi h1⟩
def OwnIt (w : World) (base : Nat) (v : Value) (l : List Itm) : Prop := w.ownsRow base 44 4 v l.length (flatIt l)
theorem OwnIt.nil0 (w : World) (base : Nat) : OwnIt w base (.slice none 0 0) [] := ⟨rfl, .inl ⟨rfl, rfl⟩⟩
theorem OwnIt.later {w w' : World} {base : Nat} {v : Value} {l : List Itm} (h : OwnIt w base v l) (hb : Below w.heap.size w w') : OwnIt w' base v l := ownsRow_later h hb
theorem OwnIt.lower {w : World} {base base' : Nat} {v : Value} {l : List Itm} (h : OwnIt w base v l) (hb : base' <= base) : OwnIt w base' v l := by
 obtain ⟨h0, ⟨hv, hn⟩ | ⟨g, cap, cur, hv, hg, hr⟩⟩ := h
 ·exact ⟨h0, .inl ⟨hv, hn⟩⟩
 ·exact ⟨h0, .inr ⟨g, cap, cur, hv, Nat.le_trans hb hg, hr⟩⟩
theorem OwnIt.row {w : World} {base : Nat} {v : Value} {l : List Itm} (h : OwnIt w base v l) : ∃ a cap, v = .slice a l.length cap /\ l.length <= cap /\ ItRow w a l := by
 obtain ⟨_, ⟨hv, hn⟩ | ⟨g, cap, cur, hv, hb, hg, hc, hm, hs, ht⟩⟩ := h
 ·have : l = [] := List.length_eq_zero_iff.1 hn
  subst this
  exact ⟨none, 0, hv, Nat.le_refl _, ItRow.nil w none⟩
 ·refine ⟨_, cap, hv, hc, fun i hi => ⟨g, 0, rfl, Blk.lt (w := w) (b := g) (vs := cur) (t := 44) hg, fun j hj => ?_⟩⟩
  rw [Blk.cell (w := w) (b := g) (vs := cur) (t := 44) hg, <- flatIt_get l i j hi hj, <- ht, List.getElem?_take, if_pos (by omega)]
  simp
theorem infoIt : (Try.prog.info? 44).map (fun i => (i.zero, i.size, i.bytes)) = some (some (.agg #[.int .i64 0, .int .i64 0, .int .i64 0, .int .i64 0]), 4, 32) := by kernel_rfl
theorem ItRow.news {w : World} {b oo : Nat} {r : List Itm} (hr : ItRow w (some ⟨b, oo, none⟩) r) : ∀ (j : Nat) (u : Value), (flatIt r)[j]? = some u -> w.cell? ((⟨b, oo, none⟩ : Addr).add j) = some u := by
 intro j u hu
 have hj : j < r.length * 4 := by rw [<- flatIt_length]; exact (List.getElem?_eq_some_iff.1 hu).1
 have hd : j / 4 < r.length := by omega
 obtain ⟨b', off, hA, _, hc⟩ := hr (j / 4) hd
 cases hA
 have h1 := hc (j % 4) (Nat.mod_lt _ (by decide))
 rw [<- flatIt_get r (j / 4) (j % 4) hd (Nat.mod_lt _ (by decide)), show j / 4 * 4 + j % 4 = j by omega, hu] at h1
 have hadd : (⟨b, oo, none⟩ : Addr).add j = ⟨b, oo + j, none⟩ := by unfold Addr.add; split <;> simp_all
 rw [hadd, <- h1]; congr 2; omega
theorem ItRow.one {w : World} {b : Nat} {p : Itm} (h : Blk w b (itV p) 44) : ItRow w (some ⟨b, 0, none⟩) [p] := fun i hi => by
 have hi : i < 1 := hi
 obtain rfl : i = 0 := by omega
 exact ⟨b, 0, rfl, h.lt, fun j hj => by rw [h.cell]; simp⟩
set_option maxRecDepth 100000 in
theorem wp_append_it {w : World} {o : Oper} {a : Act} {K : Act -> World -> Prop} {Q : Exit -> Act -> World -> Prop} (s x : Operand)
 (ho : o.op = .call { callee := .builtin .append, args := #[s, x], argTypes := #[26, 26] })
 (base : Nat) (v : Value) (l : List Itm) (hs : a.eval s = v) (hown : OwnIt w base v l)
 (b oo c : Nat) (r : List Itm) (hx : a.eval x = .slice (some ⟨b, oo, none⟩) r.length c) (hr : ItRow w (some ⟨b, oo, none⟩) r) (hlen : l.length + r.length < 1073741824) (hbase : base <= w.heap.size)
 (h : ∀ v' w', OwnIt w' base v' (l ++ r) -> w.grownBy w' v.ownBlock -> K (a.put o.dst v') w') : o.wp Try.prog a w K Q := by
 obtain ⟨ib, hib, hz0, hz1, hz2⟩ := info_parts infoIt
 obtain ⟨v', w', hrun, h2, h3, _⟩ := run_append_own (P := Try.prog) w base 26 o.type 44 ib _ 4 32 Try.underlying26 hib hz0 hz1 hz2 rfl (by decide) v l.length (flatIt l) hown ⟨b, oo, none⟩ r.length c (flatIt r) (by rw [flatIt_length]) hr.news (flatIt_ones r) (by unfold maxLen; omega) (by omega) hbase
 unfold Oper.wp execOp
 simp only [ho, resolve, invoke, builtin, Sem.run_bind, Sem.run_pure, Result.andThen_ok, List.map_toArray, List.map_cons, List.map_nil, hs, hx, hrun]
 exact h v' w' (by unfold OwnIt; rw [List.length_append, flatIt_append]; exact h2) h3
theorem wpList_append_it {w : World} {ops : Array Oper} {rest : List Oper} {o : Oper} {a : Act} {Q : Exit -> Act -> World -> Prop} (hgd : o.guard = none) (s x : Operand)
 (ho : o.op = .call { callee := .builtin .append, args := #[s, x], argTypes := #[26, 26] })
 (base : Nat) (v : Value) (l : List Itm) (hs : a.eval s = v) (hown : OwnIt w base v l)
 (b : Nat) (p : Itm) (hx : a.eval x = .slice (some ⟨b, 0, none⟩) 1 1) (hnew : Blk w b (itV p) 44) (hlen : l.length < 1073741000) (hbase : base <= w.heap.size)
 (h : ∀ v' w', OwnIt w' base v' (l ++ [p]) -> w.grownBy w' v.ownBlock -> wpList Try.prog ops Q rest (a.put o.dst v') w') : wpList Try.prog ops Q (o :: rest) a w :=
 wpList_plain hgd fun K hK => wp_append_it s x ho base v l hs hown b 0 1 [p] hx (ItRow.one hnew) (by simp; omega) hbase fun v' w' h1 h2 => hK _ _ (h v' w' h1 h2)
theorem wpList_make_it {w : World} {ops : Array Oper} {rest : List Oper} {o : Oper} {a : Act} {Q : Exit -> Act -> World -> Prop} (hgd : o.guard = none) (l c : Operand) (hop : o.op = Op.makeSlice 26 l c)
 (C : Int) (n : Nat) (hl : a.eval l = .int .i64 0) (hc : a.eval c = .int .i64 C) (hC : C = (n : Int)) (hn : n <= 1073741824)
 (hK : ∀ w', OwnIt w' w.heap.size (.slice (some ⟨w.heap.size, 0, none⟩) 0 n) [] -> Below w.heap.size w w' -> wpList Try.prog ops Q rest (a.put o.dst (.slice (some ⟨w.heap.size, 0, none⟩) 0 n)) w') : wpList Try.prog ops Q (o :: rest) a w := by
 obtain ⟨ib, hib, hz0, hz1, hz2⟩ := info_parts infoIt
 exact wpList_make_own w hgd l c 26 hop w.heap.size 44 ib _ 4 Try.underlying26 hib hz0 hz1 .i64 .i64 C n hl hc hC (by rw [hz2]; omega) (by unfold maxLen; omega) (Nat.le_refl _)
  fun w' h1 h2 => hK w' h1 ⟨h2.os, h2.tape, h2.output, h2.size, fun k hk => h2.block k hk (by simp)⟩
set_option maxRecDepth 100000
set_option maxHeartbeats 16000000
theorem eqIn_i64 (d : Nat) (a b : Int) (w : World) : (Op.equalIn (d + 1) 3 (.int .i64 a) (.int .i64 b)).run Try.prog w = .ok (a == b) w := by
 simp [Op.equalIn, go_sem]
theorem equal_it (x y : Itm) (w : World) : (Op.equal 44 (.agg (itV x)) (.agg (itV y))).run Try.prog w = .ok (decide (x = y)) w := by
 have hu : Try.prog.underlying 44 = some (.struct (Try.prog.fieldsOf 44)) := by kernel_rfl
 show (Op.equalIn (9999 + 1) 44 _ _).run Try.prog w = _
 rw [run_equalIn_struct w 9999 _ _ _ hu (by kernel_rfl)]
 simp only [Program.fieldsOf, Try.underlying44]
 have hi : ∀ (a b : Int) w, (Op.equalIn 9999 3 (.int .i64 a) (.int .i64 b)).run Try.prog w = .ok (a == b) w := fun a b w => eqIn_i64 9998 a b w
 unfold itV
 simp [Op.eqFields, part, go_sem, hi]
 clear hi hu
 obtain ⟨a, b, c, d⟩ := x; obtain ⟨e, f, g, h⟩ := y
 by_cases h1 : a = e <;> by_cases h2 : b = f <;> by_cases h3 : c = g <;> by_cases h4 : d = h <;> simp [h1, h2, h3, h4]
theorem eql_it (x y : Itm) (w : World) : (binOp .eql 44 (.agg (itV x)) (.agg (itV y))).run Try.prog w = .ok (.bool (decide (x = y))) w := by
 have h := equal_it x y w
 simp only [binOp]
 simp [h]
theorem neq_it (x y : Itm) (w : World) : (binOp .neq 44 (.agg (itV x)) (.agg (itV y))).run Try.prog w = .ok (.bool (!decide (x = y))) w := by
 have h := equal_it x y w
 simp only [binOp]
 simp [h]
theorem eqGuard_eql_it (o1 o2 : Operand) (x y : Itm) (w : World) : (eqGuard .eql 44 o1 o2 (.agg (itV x)) (.agg (itV y))).run Try.prog w = .ok () w := by
 unfold itV; simp [eqGuard, go_sem]
theorem eqGuard_neq_it (o1 o2 : Operand) (x y : Itm) (w : World) : (eqGuard .neq 44 o1 o2 (.agg (itV x)) (.agg (itV y))).run Try.prog w = .ok () w := by
 unfold itV; simp [eqGuard, go_sem]
theorem inan_any (n : Int) (w : World) : Calls Try.prog 101 #[.int .i64 n] w (Pure w (.bool false)) := by
 go_enter Try.func101, Try.ntmps101
 have h : (n != n) = false := by simp
 go_wp2
 go_ret
 exact ⟨by simp, rfl⟩
theorem icmp_any (a b : Int) (w : World) : Calls Try.prog 80 #[.int .i64 a, .int .i64 b] w (Pure w (.int .i64 (cmpI a b))) := by
 have H1 := Lib.hid (inan_any a)
 have H2 := Lib.hid (inan_any b)
 rcases Int.lt_trichotomy a b with h | h | h
 ·have e : cmpI a b = -1 := by unfold cmpI; rw [if_pos h]
  rw [e]; clear e
  go_enter Try.func80, Try.ntmps80
  go_wp2_with first | ((with_reducible refine (H1.out _).mono ?_); rintro e w' ⟨rfl, rfl⟩) | ((with_reducible refine (H2.out _).mono ?_); rintro e w' ⟨rfl, rfl⟩)
  go_ret
  exact ⟨rfl, rfl⟩
 ·subst h
  have e : cmpI a a = 0 := by unfold cmpI; rw [if_neg (by omega), if_neg (by omega)]
  rw [e]; clear e
  have h1 : ¬ a < a := by omega
  have h2 : ¬ a > a := by omega
  go_enter Try.func80, Try.ntmps80
  go_wp2_with first | ((with_reducible refine (H1.out _).mono ?_); rintro e w' ⟨rfl, rfl⟩) | ((with_reducible refine (H2.out _).mono ?_); rintro e w' ⟨rfl, rfl⟩)
  go_ret
  exact ⟨rfl, rfl⟩
 ·have e : cmpI a b = 1 := by unfold cmpI; rw [if_neg (by omega), if_pos h]
  rw [e]; clear e
  have h1 : ¬ a < b := by omega
  have h2 : a > b := h
  go_enter Try.func80, Try.ntmps80
  go_wp2_with first | ((with_reducible refine (H1.out _).mono ?_); rintro e w' ⟨rfl, rfl⟩) | ((with_reducible refine (H2.out _).mono ?_); rintro e w' ⟨rfl, rfl⟩)
  go_ret
  exact ⟨rfl, rfl⟩
def orL : List Int -> Int
 | [] => 0
 | x :: l => orI x (orL l)
theorem orL_zero : ∀ {l : List Int} {k : Nat}, (∀ x ∈ l.take k, x = 0) -> orL l = orL (l.drop k)
 | [], k, _ => by simp
 | x :: l, 0, _ => rfl
 | x :: l, k + 1, h => by
  have hx : x = 0 := h x (by simp)
  show orI x (orL l) = orL (l.drop k)
  rw [<- orL_zero (l := l) (k := k) fun y hy => h y (by simp [hy])]
  unfold orI; rw [if_pos hx]
theorem orL_at {l : List Int} {k : Nat} (hk : k < l.length) (h : ∀ x ∈ l.take k, x = 0) (hn : l.getD k 0 ≠ 0) : orL l = l.getD k 0 := by
 rw [orL_zero h, List.drop_eq_getElem_cons hk]
 rw [List.getD_eq_getElem?_getD, List.getElem?_eq_getElem hk] at hn ⊢
 simp only [Option.getD_some] at hn ⊢
 unfold orL orI; rw [if_neg hn]
theorem orL_none {l : List Int} (h : ∀ x ∈ l, x = 0) : orL l = 0 := by
 rw [orL_zero (k := l.length) (by rw [List.take_length]; exact h), List.drop_length]; rfl
def OrLp (l : List Int) (w0 : World) (i : Value) (w : World) : Prop := ∃ k : Nat, k <= l.length /\ i = .int .i64 (k : Int) /\ (∀ x ∈ l.take k, x = 0) /\ w0 = w
theorem cmpor_any (l : List Int) (b : Nat) (cap : Nat) (hl : l.length <= 1000) (w : World) (hc : ∀ k, k < l.length -> w.cell? ⟨b, k, none⟩ = some (.int .i64 (l.getD k 0))) : Calls Try.prog 79 #[.slice (some ⟨b, 0, none⟩) l.length cap] w (Pure w (.int .i64 (orL l))) := by
 obtain ⟨v, hv⟩ : ∃ v, orL l = v := ⟨_, rfl⟩
 have HV := Lib.hid hv
 have HC := Lib.hid hc
 rw [hv]
 clear hv hc
 go_enter Try.func79, Try.ntmps79
 go_wp2
 go_loopw [8] (OrLp l w) (fun i _ => l.length - (intOf i).toNat)
 case atStart => exact ⟨0, Nat.zero_le _, rfl, by simp, rfl⟩
 case round =>
  obtain ⟨k, hk, rfl, hz, rfl⟩ := hrel
  have HZ := Lib.hid hz
  clear hz
  by_cases hlt : k < l.length
  ·have hltz : (k : Int) < (l.length : Int) := by omega
   have hck := HC.out k hlt
   have HT : Hid (l.take (k + 1) = l.take k ++ [l.getD k 0]) := by unfold Hid; rw [List.take_succ_eq_append_getElem hlt, List.getD_eq_getElem?_getD, List.getElem?_eq_getElem hlt]; rfl
   have HO := Lib.hid (orL_at hlt HZ.out)
   generalize l.getD k 0 = x at *
   by_cases h0 : x = 0
   ·subst h0
    have HN : Hid (∀ x ∈ l.take (k + 1), x = 0) := fun x hx => by
     rw [HT.out] at hx
     rcases List.mem_append.1 hx with h | h
     ·exact HZ.out x h
     ·simpa using h
    have HLT := Lib.hid hlt
    clear hlt
    go_wp2
    go_roundw
    case rel => exact ⟨k + 1, HLT.out, by go_num, HN.out, rfl⟩
    case measure => have := HLT.out; simp [intOf] <;> omega
   ·have HR : Hid (v = x) := by unfold Hid; rw [<- HV.out]; exact HO.out h0
    have hb : (x != 0) = true := by simpa using h0
    clear hlt h0
    go_wp2
    go_ret
    exact ⟨by rw [HR.out]; rfl, rfl⟩
  ·obtain rfl : k = l.length := by omega
   have HR : Hid (v = 0) := by unfold Hid; rw [<- HV.out]; exact orL_none (by have := HZ.out; rwa [List.take_length] at this)
   have hltz : ¬ ((l.length : Nat) : Int) < (l.length : Int) := by omega
   go_wp2
   go_ret
   exact ⟨by rw [HR.out]; rfl, rfl⟩
theorem orI_zero (d : Int) : orI d 0 = d := by unfold orI; split <;> omega
theorem cmpor4 (a b c d : Int) {w : World} {g : Nat} (h : Blk w g #[.int .i64 a, .int .i64 b, .int .i64 c, .int .i64 d] 3) : Calls Try.prog 79 #[.slice (some ⟨g, 0, none⟩) 4 4] w (Pure w (.int .i64 (orI a (orI b (orI c d))))) := by
 have := cmpor_any [a, b, c, d] g 4 (by simp) w fun k hk => by
  have hk : k < 4 := hk
  rw [h.cell]
  have : k = 0 \/ k = 1 \/ k = 2 \/ k = 3 := by omega
  rcases this with rfl | rfl | rfl | rfl <;> rfl
 rw [show orL [a, b, c, d] = orI a (orI b (orI c (orI d 0))) from rfl, orI_zero] at this
 exact this
theorem cmpor2 (a b : Int) {w : World} {g : Nat} (h : Blk w g #[.int .i64 a, .int .i64 b] 3) : Calls Try.prog 79 #[.slice (some ⟨g, 0, none⟩) 2 2] w (Pure w (.int .i64 (orI a b))) := by
 have := cmpor_any [a, b] g 2 (by simp) w fun k hk => by
  have hk : k < 2 := hk
  rw [h.cell]
  have : k = 0 \/ k = 1 := by omega
  rcases this with rfl | rfl <;> rfl
 rw [show orL [a, b] = orI a (orI b 0) from rfl, orI_zero] at this
 exact this
structure CiS (w0 : World) (x y : Itm) (bx bz : Nat) (w : World) : Prop where
 bel : Below w0.heap.size w0 w
 bx : Blk w bx (itV x) 44
 bz : Blk w bz (itV y) 44
theorem CiS.cells {w0 w : World} {x y : Itm} {bx bz : Nat} (h : CiS w0 x y bx bz w) : At4 w bx 0 x /\ At4 w bz 0 y := by
 unfold At4
 exact ⟨⟨h.bx.cell 0, h.bx.cell 1, h.bx.cell 2, h.bx.cell 3⟩, ⟨h.bz.cell 0, h.bz.cell 1, h.bz.cell 2, h.bz.cell 3⟩⟩
theorem take_next {a b : List Itm} {k : Nat} (hk : k < a.length) (hk2 : k < b.length) (h : a.take k = b.take k) (he : a.getD k it0 = b.getD k it0) : a.take (k + 1) = b.take (k + 1) := by
 rw [List.take_succ_eq_append_getElem hk, List.take_succ_eq_append_getElem hk2, h]
 rw [List.getD_eq_getElem?_getD, List.getElem?_eq_getElem hk, List.getD_eq_getElem?_getD, List.getElem?_eq_getElem hk2] at he
 simp only [Option.getD_some] at he
 rw [he]
def ciF : Value := .func (.func 82) #[] #[]
def GrwD (w w' : World) : Prop := ∃ q os, w' = Go.Sort.grow (w.drewN q) os
theorem GrwD.refl (w : World) : GrwD w w := ⟨0, #[], by unfold Go.Sort.grow World.drewN; simp⟩
theorem GrwD.drew (w : World) : GrwD w w.drew := ⟨1, #[], by unfold Go.Sort.grow World.drewN World.drew; simp⟩
theorem GrwD.alloc (w : World) (o : Obj) : GrwD w (w.alloc o) := ⟨0, #[o], by rw [Go.Sort.alloc_eq_grow]; rfl⟩
theorem GrwD.trans {a b d : World} (h : GrwD a b) (k : GrwD b d) : GrwD a d := by
 obtain ⟨q, os, rfl⟩ := h
 obtain ⟨q2, os2, rfl⟩ := k
 refine ⟨q + q2, os ++ os2, ?_⟩
 unfold Go.Sort.grow World.drewN
 simp [Array.append_assoc, Nat.add_assoc]
theorem GrwD.below {w w' : World} (h : GrwD w w') : Below w.heap.size w w' := by
 obtain ⟨q, os, rfl⟩ := h
 refine ⟨rfl, rfl, rfl, ?_, fun k hk => ?_⟩
 ·unfold Go.Sort.grow World.drewN; simp
 ·unfold Go.Sort.grow World.drewN; simp [Array.getElem?_append, hk]
def AnsGd (w : World) (v : Value) (e : Ending) (w' : World) : Prop := e = .returned v /\ GrwD w w'
theorem citemD (x y : Itm) (w : World) : Calls Try.prog 82 #[.agg (itV x), .agg (itV y)] w (AnsGd w (.int .i64 (itC x y))) := by
 have hg2 := (GrwD.alloc w (.cells (itV x) 44)).trans (GrwD.alloc _ (.cells (itV y) 44))
 have HGW := Lib.hid hg2
 have hb1 := (Below.refl w.heap.size w).alloc (Nat.le_refl _) (.cells (itV x) 44)
 have hb2 := hb1.alloc (hb1.size) (.cells (itV y) 44)
 have HS0 : Hid (CiS w x y w.heap.size (w.alloc (.cells (itV x) 44)).heap.size ((w.alloc (.cells (itV x) 44)).alloc (.cells (itV y) 44))) :=
  ⟨hb2, (Blk.new w _ _).later ((Below.refl _ _).alloc (Nat.le_refl _) _), Blk.new _ _ _⟩
 rw [World.size_alloc] at HS0
 have HQ := Lib.hid (fun w => eql_it x y w)
 have HG := Lib.hid (fun o1 o2 w => eqGuard_eql_it o1 o2 x y w)
 obtain ⟨v, hv⟩ : ∃ v, itC x y = v := ⟨_, rfl⟩
 have HV := Lib.hid hv
 have HO := Lib.hid (itC_or x y)
 have HZ := Lib.hid (itC_zero x y)
 rw [hv]
 clear hb1 hb2 hv hg2
 go_enter Try.func82, Try.ntmps82
 go_upto_region 1 with (fail)
 unfold itV at HS0 HQ HG HGW ⊢
 generalize (w.alloc (.cells #[.int .i64 x.kind, .int .i64 x.node, .int .i64 x.lo, .int .i64 x.hi] 44)).alloc (.cells #[.int .i64 y.kind, .int .i64 y.node, .int .i64 y.lo, .int .i64 y.hi] 44) = w1 at *
 have c := HS0.out.cells
 unfold At4 at c
 obtain ⟨⟨x0, x1, x2, x3⟩, ⟨y0, y1, y2, y3⟩⟩ := c
 have hq := HQ.out
 have hg := HG.out
 by_cases hxy : x = y
 ·have hd : decide (x = y) = true := decide_eq_true hxy
  rw [hd] at hq
  have HR : Hid (v = 0) := by unfold Hid; rw [<- HV.out]; exact HZ.out.2 hxy
  clear hd hxy
  go_wp2
  go_ret
  exact ⟨by rw [HR.out]; rfl, HGW.out⟩
 ·have hd : decide (x = y) = false := decide_eq_false hxy
  rw [hd] at hq
  have HR : Hid (v = orI (cmpI x.kind y.kind) (orI (cmpI x.node y.node) (orI (cmpI x.lo y.lo) (cmpI x.hi y.hi)))) := by unfold Hid; rw [<- HV.out, HO.out]
  clear hd hxy
  go_upto_region 3 with (fail)
  clear hq hg HQ HG HZ HV HO
  generalize w.heap.size = bx at *
  go_region_held3 (fun w' => w'.cell? ⟨bx, 0, none⟩ = some (.int .i64 x.kind) /\ w'.cell? ⟨bx, 1, none⟩ = some (.int .i64 x.node) /\ w'.cell? ⟨bx, 2, none⟩ = some (.int .i64 x.lo) /\ w'.cell? ⟨bx, 3, none⟩ = some (.int .i64 x.hi) /\ w'.cell? ⟨bx + 1, 0, none⟩ = some (.int .i64 y.kind) /\ w'.cell? ⟨bx + 1, 1, none⟩ = some (.int .i64 y.node) /\ w'.cell? ⟨bx + 1, 2, none⟩ = some (.int .i64 y.lo) /\ w'.cell? ⟨bx + 1, 3, none⟩ = some (.int .i64 y.hi)) (go_keep) (first | (go_at_call 80; refine (icmp_any _ _ _).mono ?_; rintro e w' ⟨rfl, rfl⟩) | (go_at_call 79; refine (cmpor4 _ _ _ _ ((Blk.new w1 _ _).later (Below.refl _ _).drew)).mono ?_; rintro e w' ⟨rfl, rfl⟩))
  go_wp2
  go_ret
  exact ⟨by rw [HR.out]; rfl, (HGW.out.trans (GrwD.alloc _ _)).trans (GrwD.drew _)⟩
structure CfG (w0 : World) (A B : Option Addr) (a b : List Itm) (w : World) : Prop where
 g : GrwD w0 w
 ra : ItRow w A a
 rb : ItRow w B b
theorem CfG.next {w0 w w' : World} {A B : Option Addr} {a b : List Itm} (h : CfG w0 A B a b w) (hb : GrwD w w') : CfG w0 A B a b w' := ⟨h.g.trans hb, h.ra.later hb.below, h.rb.later hb.below⟩
def CfGL (w0 : World) (A B : Option Addr) (a b : List Itm) (i : Value) (w : World) : Prop := ∃ k : Nat, k <= a.length /\ k <= b.length /\ i = .int .i64 (k : Int) /\ a.take k = b.take k /\ CfG w0 A B a b w
def CfGP (w0 : World) (a b : List Itm) (e : Ending) (w : World) : Prop := ∃ v : Int, e = .returned (.int .i64 v) /\ (a.length = b.length -> v = stC a b) /\ GrwD w0 w
theorem cfuncD (a b : List Itm) (A B : Option Addr) (c1 c2 : Nat) (w : World) (ha : ItRow w A a) (hb : ItRow w B b) (h1 : a.length <= 1073741824) (h2 : b.length <= 1073741824) :
 Calls Try.prog 81 #[.slice A a.length c1, .slice B b.length c2, ciF] w (CfGP w a b) := by
 have HE : Hid (CfG w A B a b w) := ⟨GrwD.refl _, ha, hb⟩
 clear ha hb
 unfold ciF
 go_enter Try.func81, Try.ntmps81
 go_wp2
 go_loopw [13] (CfGL w A B a b) (fun i _ => a.length - (intOf i).toNat)
 case atStart => exact ⟨0, Nat.zero_le _, Nat.zero_le _, rfl, rfl, HE.out⟩
 case round =>
  obtain ⟨k, hk, hkb, rfl, hlk, hs⟩ := hrel
  have HLK := Lib.hid hlk
  have HS := Lib.hid hs
  by_cases hlt : k < a.length
  ·have hltz : (k : Int) < (a.length : Int) := by omega
   obtain ⟨ba, oa, rfl, hba, xa⟩ := hs.ra.four hlt
   by_cases hlb : k < b.length
   ·have hge : ¬ (k : Int) >= (b.length : Int) := by omega
    obtain ⟨bb, ob, rfl, hbb, -⟩ := hs.rb.four hlb
    have FB := Lib.hid (fun (w' : World) (h : ItRow w' (some ⟨bb, ob, none⟩) b) => h.at hlb rfl)
    have HOT := Lib.hid (fun hl : a.length = b.length => stC_other hl hlt HLK.out)
    have HNX := Lib.hid (take_next hlt hlb HLK.out)
    have HZE := Lib.hid (itC_zero (a.getD k it0) (b.getD k it0))
    have HC := Lib.hid (fun w' => citemD (a.getD k it0) (b.getD k it0) w')
    clear hs hlk
    generalize a.getD k it0 = x at *
    generalize b.getD k it0 = y at *
    unfold At4 at xa
    obtain ⟨x0, x1, x2, x3⟩ := xa
    go_upto_region 6 with (fail)
    have hb1 := GrwD.alloc wr (.cells (itV x) 44)
    have HS1 : Hid (CfG w (some ⟨ba, oa, none⟩) (some ⟨bb, ob, none⟩) a b (wr.alloc (.cells (itV x) 44))) := HS.out.next hb1
    have HX1 := Lib.hid (Blk.new wr (itV x) 44)
    clear hb1 x0 x1 x2 x3
    unfold itV at HS1 HX1 HC
    generalize wr.alloc (.cells #[.int .i64 x.kind, .int .i64 x.node, .int .i64 x.lo, .int .i64 x.hi] 44) = w1 at HS1 HX1 ⊢
    obtain ⟨y0, y1, y2, y3⟩ := FB.out _ HS1.out.rb
    go_upto_region 7 with (fail)
    have hb2 := GrwD.alloc w1 (.cells #[.int .i64 y.kind, .int .i64 y.node, .int .i64 y.lo, .int .i64 y.hi] 44)
    have HS2 := Lib.hid (HS1.out.next hb2)
    have HX2 := Lib.hid (HX1.out.later hb2.below)
    have HY2 := Lib.hid (Blk.new w1 #[.int .i64 y.kind, .int .i64 y.node, .int .i64 y.lo, .int .i64 y.hi] 44)
    clear hb2 y0 y1 y2 y3
    generalize w1.alloc (.cells #[.int .i64 y.kind, .int .i64 y.node, .int .i64 y.lo, .int .i64 y.hi] 44) = w2 at HS2 HX2 HY2 ⊢
    have x0 := HX2.out.cell 0
    have x1 := HX2.out.cell 1
    have x2 := HX2.out.cell 2
    have x3 := HX2.out.cell 3
    have y0 := HY2.out.cell 0
    have y1 := HY2.out.cell 1
    have y2 := HY2.out.cell 2
    have y3 := HY2.out.cell 3
    simp at x0 x1 x2 x3 y0 y1 y2 y3
    go_wp2_with fail
    refine (HC.out _).mono ?_; rintro e w3 ⟨rfl, hb⟩
    have HS3 := Lib.hid (HS2.out.next hb)
    clear hb x0 x1 x2 x3 y0 y1 y2 y3 HX1 HX2 HY2 HS1 HS2
    by_cases hc : itC x y = 0
    ·rw [hc]
     have HN := Lib.hid (HNX.out (HZE.out.1 hc))
     clear hc
     have HLT := Lib.hid hlt
     have HLB := Lib.hid hlb
     go_wp2
     go_roundw
     case rel => exact ⟨k + 1, HLT.out, HLB.out, by go_num, HN.out, HS3.out⟩
     case measure => have := HLT.out; simp [intOf] <;> omega
    ·have HN := Lib.hid (fun hl => HOT.out hl hc)
     have hcb : (itC x y != 0) = true := by simpa using hc
     clear hc HOT HNX HZE
     generalize itC x y = v at *
     go_wp2
     go_ret
     exact ⟨v, rfl, fun hl => (HN.out hl).symm, HS3.out.g⟩
   ·have hge : (k : Int) >= (b.length : Int) := by omega
    have HNE : Hid (a.length ≠ b.length) := by unfold Hid; omega
    unfold At4 at xa
    obtain ⟨x0, x1, x2, x3⟩ := xa
    clear hs hlk
    generalize a.getD k it0 = x at *
    have hb1 := GrwD.alloc wr (.cells (itV x) 44)
    have HB := Lib.hid (HS.out.g.trans hb1)
    clear hb1
    go_wp2
    go_ret
    exact ⟨1, rfl, fun hl => absurd hl HNE.out, HB.out⟩
  ·obtain rfl : k = a.length := by omega
   have hltz : ¬ ((a.length : Nat) : Int) < (a.length : Int) := by omega
   clear hs
   by_cases hab : a.length < b.length
   ·have hz : (a.length : Int) < (b.length : Int) := by omega
    have HNE : Hid (a.length ≠ b.length) := by unfold Hid; omega
    clear hlk hab
    go_wp2
    go_ret
    exact ⟨-1, rfl, fun hl => absurd hl HNE.out, HS.out.g⟩
   ·have hz : ¬ (a.length : Int) < (b.length : Int) := by omega
    have HEQ : Hid (a = b) := by
     unfold Hid
     have h3 : a.length = b.length := by omega
     have h4 := hlk
     rw [List.take_length, h3, List.take_length] at h4
     exact h4
    clear hlk hab
    go_wp2
    go_ret
    exact ⟨0, rfl, fun _ => by rw [HEQ.out, stC_self], HS.out.g⟩
theorem icompareD (a b : List Itm) (A B : Option Addr) (c1 c2 : Nat) (w : World) (ha : ItRow w A a) (hb : ItRow w B b) (h1 : a.length <= 1073741824) (h2 : b.length <= 1073741824) :
 Calls Try.prog 58 #[.slice A a.length c1, .slice B b.length c2] w (AnsGd w (.int .i64 (stC a b))) := by
 have HC := Lib.hid (cfuncD a b A B c1 c2 w ha hb h1 h2)
 have H1 := Lib.hid (icmp_any (a.length : Int) (b.length : Int) w)
 have HM : Hid (∀ v : Int, (a.length = b.length -> v = stC a b) -> orI (cmpI (a.length : Int) (b.length : Int)) v = stC a b) := fun v hv => by
  unfold cmpI
  rcases Nat.lt_trichotomy a.length b.length with h | h | h
  ·rw [if_pos (by omega), stC_len h]; rfl
  ·rw [if_neg (by omega), if_neg (by omega), <- hv h]; rfl
  ·rw [if_neg (by omega), if_pos (by omega), stC_len2 h]; rfl
 clear ha hb h1 h2
 unfold ciF at HC
 go_enter Try.func58, Try.ntmps58
 go_wp2_with fail
 refine H1.out.mono ?_; rintro e w1 ⟨rfl, rfl⟩
 go_wp2_with fail
 refine HC.out.mono ?_; rintro e w2 ⟨v, rfl, hv, hb⟩
 have HV := Lib.hid (HM.out v hv)
 have HB := Lib.hid hb
 clear hv hb HM HC H1
 generalize cmpI (a.length : Int) (b.length : Int) = c at *
 generalize stC a b = r at *
 go_wp2_with fail
 refine (cmpor2 _ _ (Blk.new _ _ _)).mono ?_
 rintro e w' ⟨rfl, rfl⟩
 have HR : Hid (r = orI c v) := by unfold Hid; rw [<- HV.out]
 go_wp2
 go_ret
 exact ⟨by rw [HR.out]; rfl, HB.out.trans (GrwD.alloc _ _)⟩
end Go.Proofs.Ytidoofdofdhjpaa
