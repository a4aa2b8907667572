/- A class' text, and that it is read back: plain mathematics. -/
import Derived.Test.YtcgjmnhmhiddkaaGreatDoorM19
import Derived.Test.YtcgjmnhmhiddkaaGreatDoorM17
import Derived.Test.YtcgjmnhmhiddkaaGreatDoorM03
import Derived.Test.YtcgjmnhmhiddkaaGreatDoorM08
import Derived.Shelf.Strings.BuilderK
import Derived.Shelf.Strings.OnBuilder
import Derived.Shelf.Strconv.Itoa3
import Derived.Laws.IdiomStrings
namespace Go.Proofs.YtcgjmnhmhiddkaaGreatDoor
open Go
set_option linter.unusedVariables false
set_option linter.unusedSimpArgs false

def digT (x : Nat) : UInt8 := if x < 10 then UInt8.ofNat (48 + x) else UInt8.ofNat (87 + x)
def hexT (x : Nat) : List UInt8 := [digT (x / 16), digT (x % 16)]
theorem digV_digT : ∀ x : Nat, x < 16 → digV (digT x) = some x := by decide
theorem digT_in : ∀ x : Nat, x < 16 → digT x ≠ 34 ∧ digT x ≠ 40 ∧ digT x ≠ 41 ∧ digT x ≠ 44 ∧ digT x ≠ 45 ∧ digT x ≠ 62 ∧ digT x ≠ 94 := by decide
theorem hexV_hexT (x : Nat) (h : x < 256) : hexV (hexT x) = some x := by
  unfold hexT hexV
  simp only [digV_digT (x / 16) (by omega), digV_digT (x % 16) (by omega)]
  congr 1; omega
def rowT (a b : Nat) : List UInt8 := if a = b then hexT a else hexT a ++ 45 :: hexT b
/-- The signs within a class' text. -/
def InCls (c : UInt8) : Prop := c ≠ 34 ∧ c ≠ 40 ∧ c ≠ 41 ∧ c ≠ 62 ∧ c ≠ 94
theorem rowT_in {a b : Nat} (ha : a < 256) (hb : b < 256) : ∀ c ∈ rowT a b, InCls c ∧ c ≠ 44 := by
  have A := digT_in (a / 16) (by omega)
  have B := digT_in (a % 16) (by omega)
  have C := digT_in (b / 16) (by omega)
  have D := digT_in (b % 16) (by omega)
  intro c hc
  unfold rowT hexT at hc
  unfold InCls
  split at hc
  · simp at hc
    rcases hc with rfl | rfl
    · exact ⟨⟨A.1, A.2.1, A.2.2.1, A.2.2.2.2.2.1, A.2.2.2.2.2.2⟩, A.2.2.2.1⟩
    · exact ⟨⟨B.1, B.2.1, B.2.2.1, B.2.2.2.2.2.1, B.2.2.2.2.2.2⟩, B.2.2.2.1⟩
  · simp at hc
    rcases hc with rfl | rfl | rfl | rfl | rfl
    · exact ⟨⟨A.1, A.2.1, A.2.2.1, A.2.2.2.2.2.1, A.2.2.2.2.2.2⟩, A.2.2.2.1⟩
    · exact ⟨⟨B.1, B.2.1, B.2.2.1, B.2.2.2.2.2.1, B.2.2.2.2.2.2⟩, B.2.2.2.1⟩
    · decide
    · exact ⟨⟨C.1, C.2.1, C.2.2.1, C.2.2.2.2.2.1, C.2.2.2.2.2.2⟩, C.2.2.2.1⟩
    · exact ⟨⟨D.1, D.2.1, D.2.2.1, D.2.2.2.2.2.1, D.2.2.2.2.2.2⟩, D.2.2.2.1⟩
theorem itemV_rowT {a b : Nat} (h : a ≤ b) (hb : b < 256) : itemV (rowT a b) = some (rowB a b) := by
  have A := digT_in (a / 16) (by omega)
  have B := digT_in (a % 16) (by omega)
  unfold itemV rowT
  split
  · rename_i e
    subst e
    have hn : cutAt 45 (hexT a) = none := cutAt_none.mpr (by
      unfold hexT; simp; exact ⟨fun h => A.2.2.2.2.1 h.symm, fun h => B.2.2.2.2.1 h.symm⟩)
    rw [hn]
    simp only [Option.getD_none, hexV_hexT a hb, Nat.le_refl, if_true]
  · have hs : cutAt 45 (hexT a ++ 45 :: hexT b) = some (hexT a, hexT b) := cutAt_app (by
      unfold hexT; simp; exact ⟨fun h => A.2.2.2.2.1 h.symm, fun h => B.2.2.2.2.1 h.symm⟩)
    rw [hs]
    simp only [Option.getD_some, hexV_hexT a (by omega), hexV_hexT b hb, h, if_true]
/-- Some texts with a , between two. -/
def joinC : List (List UInt8) → List UInt8
  | [] => []
  | [x] => x
  | x :: y :: l => x ++ 44 :: joinC (y :: l)
theorem piecesA_in : ∀ (x : List UInt8) (r : List UInt8), (∀ c ∈ x, c ≠ 44) → piecesA 44 (x ++ r) = (x ++ (piecesA 44 r).1, (piecesA 44 r).2)
  | [], r, _ => rfl
  | c :: x, r, h => by
    show (if c = 44 then _ else _) = _
    rw [if_neg (h c (by simp)), show x.append r = x ++ r from rfl, piecesA_in x r (fun d hd => h d (by simp [hd]))]; rfl
theorem pieces_join : ∀ (l : List (List UInt8)), l ≠ [] → (∀ x ∈ l, ∀ c ∈ x, c ≠ 44) → pieces 44 (joinC l) = l
  | [], h, _ => absurd rfl h
  | [x], _, h => by
    have := piecesA_in x [] (h x (by simp))
    rw [List.append_nil] at this
    unfold pieces
    show (piecesA 44 x).1 :: (piecesA 44 x).2 = _
    rw [this]; simp [piecesA]
  | x :: y :: l, _, h => by
    have k := pieces_join (y :: l) (by simp) (fun z hz => h z (by simp only [List.mem_cons] at hz ⊢; exact .inr hz))
    unfold pieces at k ⊢
    show (piecesA 44 (x ++ 44 :: joinC (y :: l))).1 :: (piecesA 44 (x ++ 44 :: joinC (y :: l))).2 = _
    rw [piecesA_in x _ (h x (by simp))]
    have e : piecesA 44 (44 :: joinC (y :: l)) = ([], (piecesA 44 (joinC (y :: l))).1 :: (piecesA 44 (joinC (y :: l))).2) := rfl
    rw [e]
    show (x ++ []) :: ((piecesA 44 (joinC (y :: l))).1 :: (piecesA 44 (joinC (y :: l))).2) = _
    rw [List.append_nil, k]
/-- Where a row ends that has begun. -/
def lastF (c : BitVec 256) : Nat → Nat → Nat
  | 0, p => p
  | f + 1, p => if p + 1 < 256 ∧ c.getLsbD (p + 1) = true then lastF c f (p + 1) else p
theorem lastF_ok (c : BitVec 256) : ∀ (f p : Nat), p < 256 → 256 ≤ p + f → c.getLsbD p = true → p ≤ lastF c f p ∧ lastF c f p < 256 ∧ (∀ j, p ≤ j → j ≤ lastF c f p → c.getLsbD j = true) ∧ (lastF c f p + 1 < 256 → c.getLsbD (lastF c f p + 1) = false)
  | 0, p, hp, hf, _ => by omega
  | f + 1, p, hp, hf, hc => by
    unfold lastF
    split
    · rename_i h
      have k := lastF_ok c f (p + 1) h.1 (by omega) h.2
      exact ⟨by omega, k.2.1, fun j h1 h2 => by
        by_cases e : j = p
        · rw [e]; exact hc
        · exact k.2.2.1 j (by omega) h2, k.2.2.2⟩
    · rename_i h
      exact ⟨Nat.le_refl _, hp, fun j h1 h2 => by rw [show j = p by omega]; exact hc, fun h2 => by
        cases hx : c.getLsbD (p + 1) with
        | false => rfl
        | true => exact absurd ⟨h2, hx⟩ h⟩
/-- The rows of a class from a byte on. -/
def rowsF (c : BitVec 256) : Nat → Nat → List (Nat × Nat)
  | 0, _ => []
  | f + 1, p => if 256 ≤ p then [] else if c.getLsbD p = false then rowsF c f (p + 1) else (p, lastF c 256 p) :: rowsF c f (lastF c 256 p + 1)
theorem rowsF_ok (c : BitVec 256) : ∀ (f p : Nat), ∀ r ∈ rowsF c f p, p ≤ r.1 ∧ r.1 ≤ r.2 ∧ r.2 < 256
  | 0, p, r, h => by cases h
  | f + 1, p, r, h => by
    unfold rowsF at h
    split at h
    · cases h
    split at h
    · have := rowsF_ok c f (p + 1) r h; omega
    · rename_i h1 h2
      have k := lastF_ok c 256 p (by omega) (by omega) (by simpa using h2)
      rcases List.mem_cons.mp h with rfl | h
      · exact ⟨Nat.le_refl _, k.1, k.2.1⟩
      · have := rowsF_ok c f _ r h; omega
/-- What is read of the rows' texts. -/
theorem items_rows (c : BitVec 256) : ∀ (f p : Nat) (s : BitVec 256), 256 ≤ p + f → ∃ t, itemsV s ((rowsF c f p).map fun r => rowT r.1 r.2) = some t ∧ ∀ j, j < 256 → t.getLsbD j = (s.getLsbD j || (decide (p ≤ j) && c.getLsbD j))
  | 0, p, s, hf => ⟨s, rfl, fun j hj => by rw [decide_eq_false (by omega)]; simp⟩
  | f + 1, p, s, hf => by
    unfold rowsF
    split
    · exact ⟨s, rfl, fun j hj => by rw [decide_eq_false (by omega)]; simp⟩
    split
    · rename_i h1 h2
      obtain ⟨t, ht, hb⟩ := items_rows c f (p + 1) s (by omega)
      refine ⟨t, ht, fun j hj => ?_⟩
      rw [hb j hj]
      by_cases e : j = p
      · subst e; rw [h2]; simp
      · rw [decide_eq_decide.mpr (show p + 1 ≤ j ↔ p ≤ j by omega)]
    · rename_i h1 h2
      have k := lastF_ok c 256 p (by omega) (by omega) (by simpa using h2)
      generalize lastF c 256 p = q at k
      obtain ⟨t, ht, hb⟩ := items_rows c f (q + 1) (s ||| rowB p q) (by omega)
      refine ⟨t, ?_, fun j hj => ?_⟩
      · show (match itemV (rowT p q) with | some t => itemsV (s ||| t) _ | none => none) = _
        rw [itemV_rowT k.1 k.2.1]; exact ht
      · rw [hb j hj, BitVec.getLsbD_or, rowB_bit _ _ _ hj]
        by_cases e : p ≤ j <;> by_cases e2 : j ≤ q
        · have := k.2.2.1 j e e2
          simp [e, e2, this]
        · simp [e, e2, show q + 1 ≤ j by omega]
        · simp [e, e2, show ¬ q + 1 ≤ j by omega]
        · omega
/-- A class' text. -/
def rowsT (c : BitVec 256) : List (List UInt8) := (rowsF c 256 0).map fun r => rowT r.1 r.2
theorem rowsT_in (c : BitVec 256) : ∀ x ∈ rowsT c, ∀ d ∈ x, InCls d ∧ d ≠ 44 := fun x hx d hd => by
  obtain ⟨r, hr, rfl⟩ := List.mem_map.mp hx
  have := rowsF_ok c 256 0 r hr
  exact rowT_in (by omega) this.2.2 d hd
def clsT (c : BitVec 256) : List UInt8 := if c = rowB 0 255 then [46] else 60 :: (joinC (rowsT c) ++ [62])
theorem joinC_in : ∀ (l : List (List UInt8)), (∀ x ∈ l, ∀ d ∈ x, InCls d) → ∀ d ∈ joinC l, InCls d
  | [], _, d, hd => by cases hd
  | [x], h, d, hd => h x (by simp) d hd
  | x :: y :: l, h, d, hd => by
    have hd : d ∈ x ++ 44 :: joinC (y :: l) := hd
    rcases List.mem_append.mp hd with hd | hd
    · exact h x (by simp) d hd
    · rcases List.mem_cons.mp hd with rfl | hd
      · unfold InCls; decide
      · exact joinC_in (y :: l) (fun z hz => h z (by simp only [List.mem_cons] at hz ⊢; exact .inr hz)) d hd
/-- The list of the rows is read to the class. -/
theorem listV_rows (c : BitVec 256) : listV (joinC (rowsT c)) = some c := by
  obtain ⟨t, ht, hb⟩ := items_rows c 256 0 0#256 (by omega)
  have e : t = c := by
    apply BitVec.eq_of_getLsbD_eq
    intro j hj
    rw [hb j hj]; simp
  rw [e] at ht
  unfold listV
  cases hr : rowsT c with
  | nil =>
    unfold rowsT at hr
    rw [hr] at ht
    rw [if_pos (show joinC [] = [] from rfl)]; exact ht
  | cons x l =>
    have hp : pieces 44 (joinC (x :: l)) = x :: l := pieces_join _ (by simp) (fun z hz d hd => (rowsT_in c z (by rw [hr]; exact hz) d hd).2)
    rw [if_neg (fun h0 => ?_), hp]
    · unfold rowsT at hr; rw [hr] at ht; exact ht
    · have h1 : ∃ a b, x = rowT a b := by
        have : x ∈ rowsT c := by rw [hr]; simp
        obtain ⟨r, _, rfl⟩ := List.mem_map.mp this
        exact ⟨_, _, rfl⟩
      obtain ⟨a, b, rfl⟩ := h1
      have hne : rowT a b ≠ [] := by unfold rowT hexT; split <;> simp
      cases l with
      | nil => exact hne h0
      | cons y l =>
        have h0 : rowT a b ++ 44 :: joinC (y :: l) = [] := h0
        simp at h0
theorem classV_rows (c : BitVec 256) : classV (joinC (rowsT c)) = some c := by
  have hin := joinC_in (rowsT c) (fun x hx d hd => (rowsT_in c x hx d hd).1)
  unfold classV
  rw [if_neg, listV_rows]
  intro h
  cases hj : joinC (rowsT c) with
  | nil => rw [hj] at h; cases h
  | cons x l =>
    rw [hj] at h hin
    have e : x = 94 := by simpa using h
    exact (hin x (by simp)).2.2.2.2 e
end Go.Proofs.YtcgjmnhmhiddkaaGreatDoor
/- The library's calls that print makes: strings.Join, strings.Builder, strconv.Itoa, by their contracts. -/
namespace Go.Proofs.YtcgjmnhmhiddkaaGreatDoor
open Go Go.RowKit
set_option linter.unusedVariables false
set_option linter.unusedSimpArgs false
set_option maxRecDepth 100000

def laysJoin_ren : Go.Shelf.Ren := ⟨fun | 156 => 106 | 165 => 128 | 166 => 30 | 169 => 31 | 240 => 50 | 241 => 147 | 276 => 83 | 277 => 158 | n => n, fun | 0 => 0 | 3 => 3 | 4 => 4 | 5 => 5 | 9 => 9 | 20 => 20 | 31 => 163 | 37 => 65 | 70 => 64 | 72 => 67 | 75 => 69 | 76 => 70 | 80 => 72 | 127 => 101 | 164 => 140 | n => n, fun  | n => n⟩
theorem laysJoin : Lays.n156 Tryz.prog laysJoin_ren := {
  mixed := by kernel_rfl,
  f156 := Tryz.func106.trans (congrArg some (by kernel_rfl)),
  f165 := Tryz.func128.trans (congrArg some (by kernel_rfl)),
  f166 := Tryz.func30.trans (congrArg some (by kernel_rfl)),
  f169 := Tryz.func31.trans (congrArg some (by kernel_rfl)),
  f240 := Tryz.func50.trans (congrArg some (by kernel_rfl)),
  f241 := Tryz.func147.trans (congrArg some (by kernel_rfl)),
  f276 := Tryz.func83.trans (congrArg some (by kernel_rfl)),
  f277 := Tryz.func158.trans (congrArg some (by kernel_rfl)),
  t0 := Tryz.underlying0,
  a0 := Tryz.isAgg0,
  z0 := Tryz.sizeOf0,
  v0 := Tryz.zeroValue0,
  t3 := Tryz.underlying3,
  a3 := Tryz.isAgg3,
  z3 := Tryz.sizeOf3,
  v3 := Tryz.zeroValue3,
  t4 := Tryz.underlying4,
  a4 := Tryz.isAgg4,
  z4 := Tryz.sizeOf4,
  v4 := Tryz.zeroValue4,
  t9 := Tryz.underlying9,
  a9 := Tryz.isAgg9,
  z9 := Tryz.sizeOf9,
  v9 := Tryz.zeroValue9,
  t20 := Tryz.underlying20,
  a20 := Tryz.isAgg20,
  z20 := Tryz.sizeOf20,
  v20 := Tryz.zeroValue20,
  t31 := Tryz.underlying163,
  a31 := Tryz.isAgg163,
  z31 := Tryz.sizeOf163,
  v31 := Tryz.zeroValue163,
  t37 := Tryz.underlying65,
  a37 := Tryz.isAgg65,
  z37 := Tryz.sizeOf65,
  v37 := Tryz.zeroValue65,
  t70 := Tryz.underlying64,
  a70 := Tryz.isAgg64,
  z70 := Tryz.sizeOf64,
  v70 := Tryz.zeroValue64,
  t72 := Tryz.underlying67,
  a72 := Tryz.isAgg67,
  z72 := Tryz.sizeOf67,
  v72 := Tryz.zeroValue67,
  t75 := Tryz.underlying69,
  a75 := Tryz.isAgg69,
  z75 := Tryz.sizeOf69,
  v75 := Tryz.zeroValue69,
  t76 := Tryz.underlying70,
  a76 := Tryz.isAgg70,
  z76 := Tryz.sizeOf70,
  v76 := Tryz.zeroValue70,
  t127 := Tryz.underlying101,
  a127 := Tryz.isAgg101,
  z127 := Tryz.sizeOf101,
  v127 := Tryz.zeroValue101,
  t164 := Tryz.underlying140,
  a164 := Tryz.isAgg140,
  z164 := Tryz.sizeOf140,
  v164 := Tryz.zeroValue140 }
def laysWrite_ren : Go.Shelf.Ren := ⟨fun | 166 => 30 | 240 => 50 | 276 => 83 | n => n, fun | 0 => 0 | 3 => 3 | 4 => 4 | 5 => 5 | 9 => 9 | 20 => 20 | 37 => 65 | 70 => 64 | 72 => 67 | 75 => 69 | 80 => 72 | 164 => 140 | n => n, fun  | n => n⟩
theorem laysWrite : Lays.n166 Tryz.prog laysWrite_ren := {
  mixed := by kernel_rfl,
  f166 := Tryz.func30.trans (congrArg some (by kernel_rfl)),
  f240 := Tryz.func50.trans (congrArg some (by kernel_rfl)),
  f276 := Tryz.func83.trans (congrArg some (by kernel_rfl)),
  t0 := Tryz.underlying0,
  a0 := Tryz.isAgg0,
  z0 := Tryz.sizeOf0,
  v0 := Tryz.zeroValue0,
  t3 := Tryz.underlying3,
  a3 := Tryz.isAgg3,
  z3 := Tryz.sizeOf3,
  v3 := Tryz.zeroValue3,
  t4 := Tryz.underlying4,
  a4 := Tryz.isAgg4,
  z4 := Tryz.sizeOf4,
  v4 := Tryz.zeroValue4,
  t9 := Tryz.underlying9,
  a9 := Tryz.isAgg9,
  z9 := Tryz.sizeOf9,
  v9 := Tryz.zeroValue9,
  t20 := Tryz.underlying20,
  a20 := Tryz.isAgg20,
  z20 := Tryz.sizeOf20,
  v20 := Tryz.zeroValue20,
  t37 := Tryz.underlying65,
  a37 := Tryz.isAgg65,
  z37 := Tryz.sizeOf65,
  v37 := Tryz.zeroValue65,
  t70 := Tryz.underlying64,
  a70 := Tryz.isAgg64,
  z70 := Tryz.sizeOf64,
  v70 := Tryz.zeroValue64,
  t72 := Tryz.underlying67,
  a72 := Tryz.isAgg67,
  z72 := Tryz.sizeOf67,
  v72 := Tryz.zeroValue67,
  t75 := Tryz.underlying69,
  a75 := Tryz.isAgg69,
  z75 := Tryz.sizeOf69,
  v75 := Tryz.zeroValue69,
  t164 := Tryz.underlying140,
  a164 := Tryz.isAgg140,
  z164 := Tryz.sizeOf140,
  v164 := Tryz.zeroValue140 }
def laysString_ren : Go.Shelf.Ren := ⟨fun | 169 => 31 | n => n, fun | 0 => 0 | 3 => 3 | 5 => 5 | 9 => 9 | 37 => 65 | 70 => 64 | 72 => 67 | 127 => 101 | n => n, fun  | n => n⟩
theorem laysString : Lays.n169 Tryz.prog laysString_ren := {
  mixed := by kernel_rfl,
  f169 := Tryz.func31.trans (congrArg some (by kernel_rfl)),
  t0 := Tryz.underlying0,
  a0 := Tryz.isAgg0,
  z0 := Tryz.sizeOf0,
  v0 := Tryz.zeroValue0,
  t3 := Tryz.underlying3,
  a3 := Tryz.isAgg3,
  z3 := Tryz.sizeOf3,
  v3 := Tryz.zeroValue3,
  t9 := Tryz.underlying9,
  a9 := Tryz.isAgg9,
  z9 := Tryz.sizeOf9,
  v9 := Tryz.zeroValue9,
  t37 := Tryz.underlying65,
  a37 := Tryz.isAgg65,
  z37 := Tryz.sizeOf65,
  v37 := Tryz.zeroValue65,
  t70 := Tryz.underlying64,
  a70 := Tryz.isAgg64,
  z70 := Tryz.sizeOf64,
  v70 := Tryz.zeroValue64,
  t72 := Tryz.underlying67,
  a72 := Tryz.isAgg67,
  z72 := Tryz.sizeOf67,
  v72 := Tryz.zeroValue67,
  t127 := Tryz.underlying101,
  a127 := Tryz.isAgg101,
  z127 := Tryz.sizeOf101,
  v127 := Tryz.zeroValue101 }
def laysItoa_ren : Go.Shelf.Ren := ⟨fun | 129 => 168 | 171 => 107 | 243 => 129 | 246 => 148 | 283 => 159 | 284 => 160 | 285 => 161 | 286 => 162 | 317 => 167 | 318 => 169 | 319 => 170 | 320 => 171 | 337 => 177 | 338 => 178 | n => n, fun | 0 => 0 | 2 => 2 | 3 => 3 | 4 => 4 | 5 => 5 | 9 => 9 | 20 => 20 | 37 => 65 | 46 => 186 | 51 => 201 | 53 => 40 | 171 => 205 | 173 => 207 | 212 => 213 | 213 => 214 | 232 => 223 | 233 => 224 | n => n, fun | 17 => 3 | 18 => 4 | 19 => 5 | n => n⟩
theorem laysItoa : LaysM.n171 Tryz.prog laysItoa_ren := {
  mixed := by kernel_rfl,
  f129 := Tryz.func168.trans (congrArg some (by kernel_rfl)),
  f171 := Tryz.func107.trans (congrArg some (by kernel_rfl)),
  f243 := Tryz.func129.trans (congrArg some (by kernel_rfl)),
  f246 := Tryz.func148.trans (congrArg some (by kernel_rfl)),
  f283 := Tryz.func159.trans (congrArg some (by kernel_rfl)),
  f284 := Tryz.func160.trans (congrArg some (by kernel_rfl)),
  f285 := Tryz.func161.trans (congrArg some (by kernel_rfl)),
  f286 := Tryz.func162.trans (congrArg some (by kernel_rfl)),
  f317 := Tryz.func167.trans (congrArg some (by kernel_rfl)),
  f318 := Tryz.func169.trans (congrArg some (by kernel_rfl)),
  f319 := Tryz.func170.trans (congrArg some (by kernel_rfl)),
  f320 := Tryz.func171.trans (congrArg some (by kernel_rfl)),
  f337 := Tryz.func177.trans (congrArg some (by kernel_rfl)),
  f338 := Tryz.func178.trans (congrArg some (by kernel_rfl)),
  t0 := Tryz.underlying0,
  a0 := Tryz.isAgg0,
  z0 := Tryz.sizeOf0,
  v0 := Tryz.zeroValue0,
  t2 := Tryz.underlying2,
  a2 := Tryz.isAgg2,
  z2 := Tryz.sizeOf2,
  v2 := Tryz.zeroValue2,
  t3 := Tryz.underlying3,
  a3 := Tryz.isAgg3,
  z3 := Tryz.sizeOf3,
  v3 := Tryz.zeroValue3,
  t4 := Tryz.underlying4,
  a4 := Tryz.isAgg4,
  z4 := Tryz.sizeOf4,
  v4 := Tryz.zeroValue4,
  t5 := Tryz.underlying5,
  a5 := Tryz.isAgg5,
  z5 := Tryz.sizeOf5,
  v5 := Tryz.zeroValue5,
  t9 := Tryz.underlying9,
  a9 := Tryz.isAgg9,
  z9 := Tryz.sizeOf9,
  v9 := Tryz.zeroValue9,
  t20 := Tryz.underlying20,
  a20 := Tryz.isAgg20,
  z20 := Tryz.sizeOf20,
  v20 := Tryz.zeroValue20,
  t37 := Tryz.underlying65,
  a37 := Tryz.isAgg65,
  z37 := Tryz.sizeOf65,
  v37 := Tryz.zeroValue65,
  t46 := Tryz.underlying186,
  a46 := Tryz.isAgg186,
  z46 := Tryz.sizeOf186,
  v46 := Tryz.zeroValue186,
  t51 := Tryz.underlying201,
  a51 := Tryz.isAgg201,
  z51 := Tryz.sizeOf201,
  v51 := Tryz.zeroValue201,
  t53 := Tryz.underlying40,
  a53 := Tryz.isAgg40,
  z53 := Tryz.sizeOf40,
  v53 := Tryz.zeroValue40,
  t171 := Tryz.underlying205,
  a171 := Tryz.isAgg205,
  z171 := Tryz.sizeOf205,
  v171 := Tryz.zeroValue205,
  t173 := Tryz.underlying207,
  a173 := Tryz.isAgg207,
  z173 := Tryz.sizeOf207,
  v173 := Tryz.zeroValue207,
  t212 := Tryz.underlying213,
  a212 := Tryz.isAgg213,
  z212 := Tryz.sizeOf213,
  v212 := Tryz.zeroValue213,
  t213 := Tryz.underlying214,
  a213 := Tryz.isAgg214,
  z213 := Tryz.sizeOf214,
  t232 := Tryz.underlying223,
  a232 := Tryz.isAgg223,
  z232 := Tryz.sizeOf223,
  v232 := Tryz.zeroValue223,
  t233 := Tryz.underlying224,
  a233 := Tryz.isAgg224,
  z233 := Tryz.sizeOf224,
  v233 := Tryz.zeroValue224,
  g17 := by kernel_rfl,
  g18 := by kernel_rfl,
  g19 := by kernel_rfl,
  i0 := by kernel_rfl,
  i2 := by kernel_rfl,
  i3 := by kernel_rfl,
  i4 := by kernel_rfl,
  i5 := by kernel_rfl,
  i9 := by kernel_rfl,
  i20 := by kernel_rfl,
  i37 := by kernel_rfl,
  i46 := by kernel_rfl,
  i51 := by kernel_rfl,
  i53 := by kernel_rfl,
  i171 := by kernel_rfl,
  i173 := by kernel_rfl,
  i212 := by kernel_rfl,
  i232 := by kernel_rfl,
  i233 := by kernel_rfl,
  m17 := by kernel_rfl,
  m18 := by kernel_rfl,
  m19 := by kernel_rfl }
theorem extra_of {ρ : Go.Shelf.Ren} (h72 : ρ.t 72 = 67) (h5 : ρ.t 5 = 5) : Builder.Extra Tryz.prog ρ := {
  sizeBuilder := by rw [h72]; kernel_rfl,
  liesBuilder := by rw [h72]; kernel_rfl,
  t5 := by rw [h5]; exact Tryz.underlying5,
  a5 := by rw [h5]; exact Tryz.isAgg5,
  z5 := by rw [h5]; exact Tryz.sizeOf5,
  v5 := by rw [h5]; exact Tryz.zeroValue5,
  infoByte := by rw [h5]; kernel_rfl,
  cellsByte := by rw [h5]; kernel_rfl,
  sizeByte := by rw [h5]; kernel_rfl,
  neB5 := by rw [h72, h5]; decide }
theorem join_joinC : ∀ l : List (List UInt8), Lib.join l [44] = joinC l
  | [] => rfl
  | [x] => Lib.join_one x [44]
  | x :: y :: l => by
    have ih := join_joinC (y :: l)
    rw [Lib.join_cons] at ih ⊢
    show _ = x ++ 44 :: joinC (y :: l)
    rw [← ih]
    unfold Lib.joinTail
    simp
theorem sjoin_any (l : List (List UInt8)) (A : Option Addr) (c : Nat) (hc : l.length ≤ c) (hl : l.length ≤ 1000) (hj : (joinC l).length ≤ 140737488355328) (w : World) (hrow : SRow w A l) :
    Calls Tryz.prog 106 #[.slice A l.length c, .string ⟨#[44]⟩] w (Ans w (.string (bs (joinC l)))) := by
  have X : Builder.Extra Tryz.prog laysJoin_ren := extra_of rfl rfl
  cases l with
  | nil =>
    refine (Any.strings_Join_none laysJoin X A c ⟨#[44]⟩ w).mono ?_
    rintro e w' ⟨rfl, rfl⟩
    exact ⟨rfl, Below.refl _ _⟩
  | cons x r =>
    obtain ⟨b, off, rfl, hb, -⟩ := hrow 0 (by simp)
    have e : ((x :: r).map bs).map (·.data.toList) = x :: r := by rw [List.map_map]; exact List.map_id _
    have h := Any.strings_Join laysJoin X b off c ((x :: r).map bs) ⟨#[44]⟩ w (fun j y hy => by
      rw [List.getElem?_map] at hy
      obtain ⟨z, hz, rfl⟩ := Option.map_eq_some_iff.1 hy
      have hj : j < (x :: r).length := (List.getElem?_eq_some_iff.1 hz).1
      obtain ⟨b', off', hA, _, hcell⟩ := hrow j hj
      cases hA
      rw [hcell, List.getD_eq_getElem?_getD, hz]; rfl) hb (by rw [List.length_map]; omega) (by rw [List.length_map]; exact hc) (by rw [e]; show (Lib.join (x :: r) [44]).length ≤ _; rw [join_joinC]; exact hj)
    rw [List.length_map, e] at h
    have e2 : Lib.join (x :: r) ((⟨#[44]⟩ : ByteArray).data.toList) = joinC (x :: r) := join_joinC (x :: r)
    rw [e2] at h
    exact h
end Go.Proofs.YtcgjmnhmhiddkaaGreatDoor
/- Digits and rows of a class' text: walked. -/
namespace Go.Proofs.YtcgjmnhmhiddkaaGreatDoor
open Go Go.RowKit
set_option linter.unusedVariables false
set_option linter.unusedSimpArgs false

theorem dgt_fin : ∀ q : Fin 16, (⟨#[48, 49, 50, 51, 52, 53, 54, 55, 56, 57, 97, 98, 99, 100, 101, 102]⟩ : ByteArray).data.toList.getD q.val 0 = digT q.val := by decide
theorem dgt_idx (q : Nat) (h : q < (⟨#[48, 49, 50, 51, 52, 53, 54, 55, 56, 57, 97, 98, 99, 100, 101, 102]⟩ : ByteArray).size) : (⟨#[48, 49, 50, 51, 52, 53, 54, 55, 56, 57, 97, 98, 99, 100, 101, 102]⟩ : ByteArray)[q]'h = digT q := by
  have h16 : q < 16 := h
  have := dgt_fin ⟨q, h16⟩
  rw [← this, List.getD_eq_getElem?_getD, List.getElem?_eq_getElem (by simpa using h16)]; rfl
set_option maxHeartbeats 4000000 in
set_option maxRecDepth 100000 in
theorem hex_any6 (c : Nat) (hc : c < 256) (w : World) : Calls Tryz.prog 127 #[.int .u8 (c : Int)] w (Ans w (.string (bs (hexT c)))) := by
  go_enter Tryz.func127, Tryz.ntmps127
  go_upto_region 1 with (fail)
  refine wp_region_stable_tail 6 (S := (Below w.heap.size w)) (hSt := fun _ _ h hb => h.trans (hb.mono h.size)) (plan := [[(0, none)], [(3, some 0)], [(4, some 1)], [(0, none)], [(6, some 3)], [(7, some 4)]]) rfl rfl (by kernel_rfl) (by kernel_rfl) (by kernel_rfl) (by kernel_rfl) ?hS ?_
  rotate_left
  iterate 6 first
    | (refine chain_skip (by rfl) (by rfl) ?_)
    | (apply chain_want (by rfl)
       · intro act wx hS hr
         simp at hr
         have h1 : (0 : Int) ≤ (c : Int) / 16 := by omega
         have h2 : (c : Int) / 16 < 16 := by omega
         have h3 : (0 : Int) ≤ (c : Int) % 16 := by omega
         have h4 : (c : Int) % 16 < 16 := by omega
         go_simp
         (try go_ints)
         first
           | (rw [dgt_idx]; exact Done.same)
           | exact Done.same
      )
  show ∀ w', _ → _
  intro wz hz
  simp [Act.put]
  case hS => exact Below.refl _ _
  have HZ := Lib.hid (hz.trans (((Below.refl _ _).alloc (Nat.le_refl _) (.cells #[.int .u8 ((digT (c / 16)).toNat : Int), .int .u8 ((digT (c % 16)).toNat : Int)] 5)).mono hz.size))
  have hk := Blk.new wz #[.int .u8 ((digT (c / 16)).toNat : Int), .int .u8 ((digT (c % 16)).toNat : Int)] 5
  have hcv : (convert 65 9 (.slice (some ⟨wz.heap.size, 0, none⟩) 2 2)).run Tryz.prog (wz.alloc (.cells #[.int .u8 ((digT (c / 16)).toNat : Int), .int .u8 ((digT (c % 16)).toNat : Int)] 5)) = .ok (.string (bs (hexT c))) (wz.alloc (.cells #[.int .u8 ((digT (c / 16)).toNat : Int), .int .u8 ((digT (c % 16)).toNat : Int)] 5)) :=
    run_convert_bytes_back (P := Tryz.prog) (wz.alloc (.cells #[.int .u8 ((digT (c / 16)).toNat : Int), .int .u8 ((digT (c % 16)).toNat : Int)] 5)) 65 9 5 ⟨wz.heap.size, 0, none⟩ 2 [digT (c / 16), digT (c % 16)] Tryz.underlying65 Tryz.underlying5 Tryz.underlying9 (fun j hj => by
      have hj2 : j < 2 := hj
      obtain rfl | rfl : j = 0 ∨ j = 1 := by omega
      · exact (hk.cell 0).trans rfl
      · exact (hk.cell 1).trans rfl)
  clear hz hk
  go_wp2
  go_ret
  exact ⟨rfl, HZ.out⟩
set_option maxHeartbeats 4000000 in
set_option maxRecDepth 100000 in
theorem row_any6 (a b : Nat) (ha : a < 256) (hb : b < 256) (w : World) : Calls Tryz.prog 105 #[.int .u8 (a : Int), .int .u8 (b : Int)] w (Ans w (.string (bs (rowT a b)))) := by
  go_enter Tryz.func105, Tryz.ntmps105
  by_cases he : a = b
  · subst he
    have hz : ((a : Int) == (a : Int)) = true := by simp
    have HR : Hid (rowT a a = hexT a) := by unfold Hid rowT; rw [if_pos rfl]
    go_wp2_with fail
    refine (hex_any6 a ha _).mono ?_; rintro e w2 ⟨rfl, hb2⟩
    have HB := Lib.hid hb2
    clear hb2
    go_wp2
    go_ret
    exact ⟨by rw [HR.out]; rfl, HB.out⟩
  · have hz : ((a : Int) == (b : Int)) = false := by rw [beq_eq_false_iff_ne]; omega
    have HR : Hid (rowT a b = hexT a ++ 45 :: hexT b) := by unfold Hid rowT; rw [if_neg he]
    go_wp2_with fail
    refine (hex_any6 a ha _).mono ?_; rintro e w2 ⟨rfl, hb2⟩
    go_wp2_with fail
    refine (hex_any6 b hb _).mono ?_; rintro e w3 ⟨rfl, hb3⟩
    have HB := Lib.hid (hb2.trans (hb3.mono hb2.size))
    clear hb2 hb3
    have HC : Hid (bs (hexT a) ++ ⟨#[45]⟩ ++ bs (hexT b) = bs (rowT a b)) := by
      unfold Hid
      rw [HR.out, show (⟨#[45]⟩ : ByteArray) = bs [45] from rfl, bs_append, bs_append, List.append_assoc]; rfl
    go_wp2
    go_ret
    exact ⟨by rw [← HC.out]; rfl, HB.out⟩
end Go.Proofs.YtcgjmnhmhiddkaaGreatDoor
/- The pieces of a text are read to tokens: plain mathematics. -/
namespace Go.Proofs.YtcgjmnhmhiddkaaGreatDoor
open Go
set_option linter.unusedVariables false
set_option linter.unusedSimpArgs false

/-- A piece is read to a token, whatever stands behind it. -/
def ReadsP (s : List UInt8) (t : Tok) : Prop := ∃ c r, s = c :: r ∧ c ≠ 32 ∧ ∀ rest, oneV c (r ++ rest) = .tok t r.length
theorem ReadsP.read {s : List UInt8} {t : Tok} (h : ReadsP s t) (rest : List UInt8) (p : Nat) : readL (s ++ rest) p 0 = (readL rest (p + s.length) 0).map fun l => { t with at_ := p } :: l := by
  obtain ⟨c, r, rfl, hc, ho⟩ := h
  show (if c = 32 then _ else match oneV c (r ++ rest) with | .bad e => _ | .tok t n => _) = _
  rw [if_neg hc, ho rest]
  show (readL (r ++ rest) (p + 1) r.length).map _ = _
  rw [readL_skip (r ++ rest) (p + 1) r.length r.length (Nat.le_refl _) (by simp), Nat.sub_self, List.drop_left]
  rw [show p + 1 + r.length = p + (c :: r).length by simp; omega]
/-- Tokens where their pieces stand, and the end. -/
def placeT : Nat → List (List UInt8) → List Tok → List Tok
  | p, s :: ss, t :: ts => { t with at_ := p } :: placeT (p + s.length) ss ts
  | p, _, _ => [{ kind := 10, at_ := p }]
/-- Pieces and their tokens, one by one. -/
inductive ReadsA : List (List UInt8) → List Tok → Prop where
  | nil : ReadsA [] []
  | cons {s t ss ts} : ReadsP s t → ReadsA ss ts → ReadsA (s :: ss) (t :: ts)
theorem ReadsA.read {ss : List (List UInt8)} {ts : List Tok} (h : ReadsA ss ts) : ∀ p, readL ss.flatten p 0 = .ok (placeT p ss ts) := by
  induction h with
  | nil => intro p; exact readL_nil p 0
  | cons h _ ih => intro p; rw [List.flatten_cons, h.read, ih]; rfl
theorem ReadsA.append {a b : List (List UInt8)} {x y : List Tok} (h : ReadsA a x) (k : ReadsA b y) : ReadsA (a ++ b) (x ++ y) := by
  induction h with
  | nil => exact k
  | cons h _ ih => exact .cons h ih
theorem reads_sign (c : UInt8) (k : Nat) (h : c ≠ 32) (ho : ∀ rest, oneV c rest = .tok { kind := k, at_ := 0 } 0) : ReadsP [c] { kind := k, at_ := 0 } := ⟨c, [], rfl, h, fun rest => ho rest⟩
theorem reads_open : ReadsP [40] { kind := 3, at_ := 0 } := reads_sign 40 3 (by decide) (fun _ => rfl)
theorem reads_shut : ReadsP [41] { kind := 4, at_ := 0 } := reads_sign 41 4 (by decide) (fun _ => rfl)
theorem reads_or : ReadsP [124] { kind := 5, at_ := 0 } := reads_sign 124 5 (by decide) (fun _ => rfl)
theorem reads_star : ReadsP [42] { kind := 6, at_ := 0 } := reads_sign 42 6 (by decide) (fun _ => rfl)
theorem reads_b : ReadsP [98] { kind := 8, at_ := 0 } := reads_sign 98 8 (by decide) (fun _ => rfl)
theorem reads_w : ReadsP [119] { kind := 9, at_ := 0 } := reads_sign 119 9 (by decide) (fun _ => rfl)
theorem reads_cls (c : BitVec 256) : ReadsP (clsT c) { kind := 1, at_ := 0, cls := c } := by
  unfold clsT
  split
  · rename_i h; subst h
    exact ⟨46, [], rfl, by decide, fun _ => rfl⟩
  · refine ⟨60, _, rfl, by decide, fun rest => ?_⟩
    have hin := joinC_in (rowsT c) (fun x hx d hd => (rowsT_in c x hx d hd).1)
    show closed 62 2 ((joinC (rowsT c) ++ [62]) ++ rest) _ = _
    have hc : cutAt 62 ((joinC (rowsT c) ++ [62]) ++ rest) = some (joinC (rowsT c), rest) := by
      rw [List.append_assoc]; exact cutAt_app (fun h => (hin 62 h).2.2.2.1 rfl)
    unfold closed
    rw [hc]
    simp only [classV_rows, List.length_append, List.length_singleton]
theorem reads_text (t : List UInt8) (h0 : t ≠ []) (h1 : utf8L t = true) (h2 : (34 : UInt8) ∉ t) : ReadsP (34 :: (t ++ [34])) { kind := 2, at_ := 0, text := t } := by
  refine ⟨34, _, rfl, by decide, fun rest => ?_⟩
  show closed 34 3 ((t ++ [34]) ++ rest) _ = _
  have hc : cutAt 34 ((t ++ [34]) ++ rest) = some (t, rest) := by
    rw [List.append_assoc]; exact cutAt_app h2
  unfold closed
  rw [hc]
  have ht : textV t = some t := by unfold textV; rw [if_neg (by simp [h0, h1])]
  simp only [ht, List.length_append, List.length_singleton]
/-- A number's digits. -/
def decT (n : Nat) : List UInt8 := if n < 10 then [UInt8.ofNat (48 + n)] else if n < 100 then [UInt8.ofNat (48 + n / 10), UInt8.ofNat (48 + n % 10)] else [UInt8.ofNat (48 + n / 100), UInt8.ofNat (48 + n / 10 % 10), UInt8.ofNat (48 + n % 10)]
theorem numV_decT : ∀ n : Fin 256, numV (decT n.val) = some n.val := by decide +kernel
theorem decT_in : ∀ n : Fin 256, ∀ c ∈ decT n.val, c ≠ 34 ∧ c ≠ 40 ∧ c ≠ 41 ∧ c ≠ 44 ∧ c ≠ 125 := by decide +kernel
def repT (lo hi : Nat) : List UInt8 := 123 :: (decT lo ++ 44 :: (decT hi ++ [125]))
theorem reads_rep (lo hi : Nat) (h : lo ≤ hi) (hh : hi < 256) : ReadsP (repT lo hi) { kind := 7, at_ := 0, lo := lo, hi := hi } := by
  refine ⟨123, _, rfl, by decide, fun rest => ?_⟩
  have L := decT_in ⟨lo, by omega⟩
  have H := decT_in ⟨hi, hh⟩
  show closed 125 4 ((decT lo ++ 44 :: (decT hi ++ [125])) ++ rest) _ = _
  have hc : cutAt 125 ((decT lo ++ 44 :: (decT hi ++ [125])) ++ rest) = some (decT lo ++ 44 :: decT hi, rest) := by
    rw [show (decT lo ++ 44 :: (decT hi ++ [125])) ++ rest = (decT lo ++ 44 :: decT hi) ++ 125 :: rest by simp]
    refine cutAt_app (fun hm => ?_)
    rcases List.mem_append.mp hm with hm | hm
    · exact (L _ hm).2.2.2.2 rfl
    · rcases List.mem_cons.mp hm with hm | hm
      · cases hm
      · exact (H _ hm).2.2.2.2 rfl
  unfold closed
  rw [hc]
  have hr : repV (decT lo ++ 44 :: decT hi) = some (lo, hi) := by
    unfold repV
    rw [cutAt_app (fun hm => (L _ hm).2.2.2.1 rfl)]
    simp only [numV_decT ⟨lo, by omega⟩, numV_decT ⟨hi, hh⟩]
  simp only [hr]
  rw [if_neg (by omega)]
  congr 1
  simp; omega
end Go.Proofs.YtcgjmnhmhiddkaaGreatDoor
