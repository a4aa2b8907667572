/- A class' text, and that it is read back: plain mathematics. -/
import Derived.Test.YtcgjmnhmhiddkaaGreatDoorM19
import Derived.Test.YtcgjmnhmhiddkaaGreatDoorM17
import Derived.Test.YtcgjmnhmhiddkaaGreatDoorM03
import Derived.Test.YtcgjmnhmhiddkaaGreatDoorM08
import Derived.Shelf.Strings.BuilderK
import Derived.Shelf.Strings.OnBuilder
import Derived.Shelf.Strconv.Itoa3
import Derived.Laws.IdiomStrings
namespace Go.Proofs.YtcgjmnhmhiddkaaGreatDoor
open Go
set_option linter.unusedVariables false
set_option linter.unusedSimpArgs false

def digT (x : Nat) : UInt8 := if x < 10 then UInt8.ofNat (48 + x) else UInt8.ofNat (87 + x)
def hexT (x : Nat) : List UInt8 := [digT (x / 16), digT (x % 16)]
def rowT (a b : Nat) : List UInt8 := if a = b then hexT a else hexT a ++ 45 :: hexT b
/-- Some texts with a , between two. -/
def joinC : List (List UInt8) → List UInt8
  | [] => []
  | [x] => x
  | x :: y :: l => x ++ 44 :: joinC (y :: l)
/-- Where a row ends that has begun. -/
def lastF (c : BitVec 256) : Nat → Nat → Nat
  | 0, p => p
  | f + 1, p => if p + 1 < 256 ∧ c.getLsbD (p + 1) = true then lastF c f (p + 1) else p
theorem lastF_ok (c : BitVec 256) : ∀ (f p : Nat), p < 256 → 256 ≤ p + f → c.getLsbD p = true → p ≤ lastF c f p ∧ lastF c f p < 256 ∧ (∀ j, p ≤ j → j ≤ lastF c f p → c.getLsbD j = true) ∧ (lastF c f p + 1 < 256 → c.getLsbD (lastF c f p + 1) = false)
  | 0, p, hp, hf, _ => by omega
  | f + 1, p, hp, hf, hc => by
    unfold lastF
    split
    · rename_i h
      have k := lastF_ok c f (p + 1) h.1 (by omega) h.2
      exact ⟨by omega, k.2.1, fun j h1 h2 => by
        by_cases e : j = p
        · rw [e]; exact hc
        · exact k.2.2.1 j (by omega) h2, k.2.2.2⟩
    · rename_i h
      exact ⟨Nat.le_refl _, hp, fun j h1 h2 => by rw [show j = p by omega]; exact hc, fun h2 => by
        cases hx : c.getLsbD (p + 1) with
        | false => rfl
        | true => exact absurd ⟨h2, hx⟩ h⟩
/-- The rows of a class from a byte on. -/
def rowsF (c : BitVec 256) : Nat → Nat → List (Nat × Nat)
  | 0, _ => []
  | f + 1, p => if 256 ≤ p then [] else if c.getLsbD p = false then rowsF c f (p + 1) else (p, lastF c 256 p) :: rowsF c f (lastF c 256 p + 1)
/-- A class' text. -/
def rowsT (c : BitVec 256) : List (List UInt8) := (rowsF c 256 0).map fun r => rowT r.1 r.2
def clsT (c : BitVec 256) : List UInt8 := if c = rowB 0 255 then [46] else 60 :: (joinC (rowsT c) ++ [62])
end Go.Proofs.YtcgjmnhmhiddkaaGreatDoor
/- The library's calls that print makes: strings.Join, strings.Builder, strconv.Itoa, by their contracts. -/
namespace Go.Proofs.YtcgjmnhmhiddkaaGreatDoor
open Go Go.RowKit
set_option linter.unusedVariables false
set_option linter.unusedSimpArgs false
set_option maxRecDepth 100000

def laysJoin_ren : Go.Shelf.Ren := ⟨fun | 156 => 106 | 165 => 128 | 166 => 30 | 169 => 31 | 240 => 50 | 241 => 147 | 276 => 83 | 277 => 158 | n => n, fun | 0 => 0 | 3 => 3 | 4 => 4 | 5 => 5 | 9 => 9 | 20 => 20 | 31 => 163 | 37 => 65 | 70 => 64 | 72 => 67 | 75 => 69 | 76 => 70 | 80 => 72 | 127 => 101 | 164 => 140 | n => n, fun  | n => n⟩
theorem laysJoin : Lays.n156 Tryz.prog laysJoin_ren := {
  mixed := by kernel_rfl,
  f156 := Tryz.func106.trans (congrArg some (by kernel_rfl)),
  f165 := Tryz.func128.trans (congrArg some (by kernel_rfl)),
  f166 := Tryz.func30.trans (congrArg some (by kernel_rfl)),
  f169 := Tryz.func31.trans (congrArg some (by kernel_rfl)),
  f240 := Tryz.func50.trans (congrArg some (by kernel_rfl)),
  f241 := Tryz.func147.trans (congrArg some (by kernel_rfl)),
  f276 := Tryz.func83.trans (congrArg some (by kernel_rfl)),
  f277 := Tryz.func158.trans (congrArg some (by kernel_rfl)),
  t0 := Tryz.underlying0,
  a0 := Tryz.isAgg0,
  z0 := Tryz.sizeOf0,
  v0 := Tryz.zeroValue0,
  t3 := Tryz.underlying3,
  a3 := Tryz.isAgg3,
  z3 := Tryz.sizeOf3,
  v3 := Tryz.zeroValue3,
  t4 := Tryz.underlying4,
  a4 := Tryz.isAgg4,
  z4 := Tryz.sizeOf4,
  v4 := Tryz.zeroValue4,
  t9 := Tryz.underlying9,
  a9 := Tryz.isAgg9,
  z9 := Tryz.sizeOf9,
  v9 := Tryz.zeroValue9,
  t20 := Tryz.underlying20,
  a20 := Tryz.isAgg20,
  z20 := Tryz.sizeOf20,
  v20 := Tryz.zeroValue20,
  t31 := Tryz.underlying163,
  a31 := Tryz.isAgg163,
  z31 := Tryz.sizeOf163,
  v31 := Tryz.zeroValue163,
  t37 := Tryz.underlying65,
  a37 := Tryz.isAgg65,
  z37 := Tryz.sizeOf65,
  v37 := Tryz.zeroValue65,
  t70 := Tryz.underlying64,
  a70 := Tryz.isAgg64,
  z70 := Tryz.sizeOf64,
  v70 := Tryz.zeroValue64,
  t72 := Tryz.underlying67,
  a72 := Tryz.isAgg67,
  z72 := Tryz.sizeOf67,
  v72 := Tryz.zeroValue67,
  t75 := Tryz.underlying69,
  a75 := Tryz.isAgg69,
  z75 := Tryz.sizeOf69,
  v75 := Tryz.zeroValue69,
  t76 := Tryz.underlying70,
  a76 := Tryz.isAgg70,
  z76 := Tryz.sizeOf70,
  v76 := Tryz.zeroValue70,
  t127 := Tryz.underlying101,
  a127 := Tryz.isAgg101,
  z127 := Tryz.sizeOf101,
  v127 := Tryz.zeroValue101,
  t164 := Tryz.underlying140,
  a164 := Tryz.isAgg140,
  z164 := Tryz.sizeOf140,
  v164 := Tryz.zeroValue140 }
def laysItoa_ren : Go.Shelf.Ren := ⟨fun | 129 => 168 | 171 => 107 | 243 => 129 | 246 => 148 | 283 => 159 | 284 => 160 | 285 => 161 | 286 => 162 | 317 => 167 | 318 => 169 | 319 => 170 | 320 => 171 | 337 => 177 | 338 => 178 | n => n, fun | 0 => 0 | 2 => 2 | 3 => 3 | 4 => 4 | 5 => 5 | 9 => 9 | 20 => 20 | 37 => 65 | 46 => 186 | 51 => 201 | 53 => 40 | 171 => 205 | 173 => 207 | 212 => 213 | 213 => 214 | 232 => 223 | 233 => 224 | n => n, fun | 17 => 3 | 18 => 4 | 19 => 5 | n => n⟩
theorem laysItoa : LaysM.n171 Tryz.prog laysItoa_ren := {
  mixed := by kernel_rfl,
  f129 := Tryz.func168.trans (congrArg some (by kernel_rfl)),
  f171 := Tryz.func107.trans (congrArg some (by kernel_rfl)),
  f243 := Tryz.func129.trans (congrArg some (by kernel_rfl)),
  f246 := Tryz.func148.trans (congrArg some (by kernel_rfl)),
  f283 := Tryz.func159.trans (congrArg some (by kernel_rfl)),
  f284 := Tryz.func160.trans (congrArg some (by kernel_rfl)),
  f285 := Tryz.func161.trans (congrArg some (by kernel_rfl)),
  f286 := Tryz.func162.trans (congrArg some (by kernel_rfl)),
  f317 := Tryz.func167.trans (congrArg some (by kernel_rfl)),
  f318 := Tryz.func169.trans (congrArg some (by kernel_rfl)),
  f319 := Tryz.func170.trans (congrArg some (by kernel_rfl)),
  f320 := Tryz.func171.trans (congrArg some (by kernel_rfl)),
  f337 := Tryz.func177.trans (congrArg some (by kernel_rfl)),
  f338 := Tryz.func178.trans (congrArg some (by kernel_rfl)),
  t0 := Tryz.underlying0,
  a0 := Tryz.isAgg0,
  z0 := Tryz.sizeOf0,
  v0 := Tryz.zeroValue0,
  t2 := Tryz.underlying2,
  a2 := Tryz.isAgg2,
  z2 := Tryz.sizeOf2,
  v2 := Tryz.zeroValue2,
  t3 := Tryz.underlying3,
  a3 := Tryz.isAgg3,
  z3 := Tryz.sizeOf3,
  v3 := Tryz.zeroValue3,
  t4 := Tryz.underlying4,
  a4 := Tryz.isAgg4,
  z4 := Tryz.sizeOf4,
  v4 := Tryz.zeroValue4,
  t5 := Tryz.underlying5,
  a5 := Tryz.isAgg5,
  z5 := Tryz.sizeOf5,
  v5 := Tryz.zeroValue5,
  t9 := Tryz.underlying9,
  a9 := Tryz.isAgg9,
  z9 := Tryz.sizeOf9,
  v9 := Tryz.zeroValue9,
  t20 := Tryz.underlying20,
  a20 := Tryz.isAgg20,
  z20 := Tryz.sizeOf20,
  v20 := Tryz.zeroValue20,
  t37 := Tryz.underlying65,
  a37 := Tryz.isAgg65,
  z37 := Tryz.sizeOf65,
  v37 := Tryz.zeroValue65,
  t46 := Tryz.underlying186,
  a46 := Tryz.isAgg186,
  z46 := Tryz.sizeOf186,
  v46 := Tryz.zeroValue186,
  t51 := Tryz.underlying201,
  a51 := Tryz.isAgg201,
  z51 := Tryz.sizeOf201,
  v51 := Tryz.zeroValue201,
  t53 := Tryz.underlying40,
  a53 := Tryz.isAgg40,
  z53 := Tryz.sizeOf40,
  v53 := Tryz.zeroValue40,
  t171 := Tryz.underlying205,
  a171 := Tryz.isAgg205,
  z171 := Tryz.sizeOf205,
  v171 := Tryz.zeroValue205,
  t173 := Tryz.underlying207,
  a173 := Tryz.isAgg207,
  z173 := Tryz.sizeOf207,
  v173 := Tryz.zeroValue207,
  t212 := Tryz.underlying213,
  a212 := Tryz.isAgg213,
  z212 := Tryz.sizeOf213,
  v212 := Tryz.zeroValue213,
  t213 := Tryz.underlying214,
  a213 := Tryz.isAgg214,
  z213 := Tryz.sizeOf214,
  t232 := Tryz.underlying223,
  a232 := Tryz.isAgg223,
  z232 := Tryz.sizeOf223,
  v232 := Tryz.zeroValue223,
  t233 := Tryz.underlying224,
  a233 := Tryz.isAgg224,
  z233 := Tryz.sizeOf224,
  v233 := Tryz.zeroValue224,
  g17 := by kernel_rfl,
  g18 := by kernel_rfl,
  g19 := by kernel_rfl,
  i0 := by kernel_rfl,
  i2 := by kernel_rfl,
  i3 := by kernel_rfl,
  i4 := by kernel_rfl,
  i5 := by kernel_rfl,
  i9 := by kernel_rfl,
  i20 := by kernel_rfl,
  i37 := by kernel_rfl,
  i46 := by kernel_rfl,
  i51 := by kernel_rfl,
  i53 := by kernel_rfl,
  i171 := by kernel_rfl,
  i173 := by kernel_rfl,
  i212 := by kernel_rfl,
  i232 := by kernel_rfl,
  i233 := by kernel_rfl,
  m17 := by kernel_rfl,
  m18 := by kernel_rfl,
  m19 := by kernel_rfl }
theorem extra_of {ρ : Go.Shelf.Ren} (h72 : ρ.t 72 = 67) (h5 : ρ.t 5 = 5) : Builder.Extra Tryz.prog ρ := {
  sizeBuilder := by rw [h72]; kernel_rfl,
  liesBuilder := by rw [h72]; kernel_rfl,
  t5 := by rw [h5]; exact Tryz.underlying5,
  a5 := by rw [h5]; exact Tryz.isAgg5,
  z5 := by rw [h5]; exact Tryz.sizeOf5,
  v5 := by rw [h5]; exact Tryz.zeroValue5,
  infoByte := by rw [h5]; kernel_rfl,
  cellsByte := by rw [h5]; kernel_rfl,
  sizeByte := by rw [h5]; kernel_rfl,
  neB5 := by rw [h72, h5]; decide }
theorem join_joinC : ∀ l : List (List UInt8), Lib.join l [44] = joinC l
  | [] => rfl
  | [x] => Lib.join_one x [44]
  | x :: y :: l => by
    have ih := join_joinC (y :: l)
    rw [Lib.join_cons] at ih ⊢
    show _ = x ++ 44 :: joinC (y :: l)
    rw [← ih]
    unfold Lib.joinTail
    simp
theorem sjoin_any (l : List (List UInt8)) (A : Option Addr) (c : Nat) (hc : l.length ≤ c) (hl : l.length ≤ 1000) (hj : (joinC l).length ≤ 140737488355328) (w : World) (hrow : SRow w A l) :
    Calls Tryz.prog 106 #[.slice A l.length c, .string ⟨#[44]⟩] w (Ans w (.string (bs (joinC l)))) := by
  have X : Builder.Extra Tryz.prog laysJoin_ren := extra_of rfl rfl
  cases l with
  | nil =>
    refine (Any.strings_Join_none laysJoin X A c ⟨#[44]⟩ w).mono ?_
    rintro e w' ⟨rfl, rfl⟩
    exact ⟨rfl, Below.refl _ _⟩
  | cons x r =>
    obtain ⟨b, off, rfl, hb, -⟩ := hrow 0 (by simp)
    have e : ((x :: r).map bs).map (·.data.toList) = x :: r := by rw [List.map_map]; exact List.map_id _
    have h := Any.strings_Join laysJoin X b off c ((x :: r).map bs) ⟨#[44]⟩ w (fun j y hy => by
      rw [List.getElem?_map] at hy
      obtain ⟨z, hz, rfl⟩ := Option.map_eq_some_iff.1 hy
      have hj : j < (x :: r).length := (List.getElem?_eq_some_iff.1 hz).1
      obtain ⟨b', off', hA, _, hcell⟩ := hrow j hj
      cases hA
      rw [hcell, List.getD_eq_getElem?_getD, hz]; rfl) hb (by rw [List.length_map]; omega) (by rw [List.length_map]; exact hc) (by rw [e]; show (Lib.join (x :: r) [44]).length ≤ _; rw [join_joinC]; exact hj)
    rw [List.length_map, e] at h
    have e2 : Lib.join (x :: r) ((⟨#[44]⟩ : ByteArray).data.toList) = joinC (x :: r) := join_joinC (x :: r)
    rw [e2] at h
    exact h
end Go.Proofs.YtcgjmnhmhiddkaaGreatDoor
/- Digits and rows of a class' text: walked. -/
namespace Go.Proofs.YtcgjmnhmhiddkaaGreatDoor
open Go Go.RowKit
set_option linter.unusedVariables false
set_option linter.unusedSimpArgs false

theorem dgt_fin : ∀ q : Fin 16, (⟨#[48, 49, 50, 51, 52, 53, 54, 55, 56, 57, 97, 98, 99, 100, 101, 102]⟩ : ByteArray).data.toList.getD q.val 0 = digT q.val := by decide
theorem dgt_idx (q : Nat) (h : q < (⟨#[48, 49, 50, 51, 52, 53, 54, 55, 56, 57, 97, 98, 99, 100, 101, 102]⟩ : ByteArray).size) : (⟨#[48, 49, 50, 51, 52, 53, 54, 55, 56, 57, 97, 98, 99, 100, 101, 102]⟩ : ByteArray)[q]'h = digT q := by
  have h16 : q < 16 := h
  have := dgt_fin ⟨q, h16⟩
  rw [← this, List.getD_eq_getElem?_getD, List.getElem?_eq_getElem (by simpa using h16)]; rfl
set_option maxHeartbeats 4000000 in
set_option maxRecDepth 100000 in
theorem hex_any6 (c : Nat) (hc : c < 256) (w : World) : Calls Tryz.prog 127 #[.int .u8 (c : Int)] w (Ans w (.string (bs (hexT c)))) := by
  go_enter Tryz.func127, Tryz.ntmps127
  go_upto_region 1 with (fail)
  refine wp_region_stable_tail 6 (S := (Below w.heap.size w)) (hSt := fun _ _ h hb => h.trans (hb.mono h.size)) (plan := [[(0, none)], [(3, some 0)], [(4, some 1)], [(0, none)], [(6, some 3)], [(7, some 4)]]) rfl rfl (by kernel_rfl) (by kernel_rfl) (by kernel_rfl) (by kernel_rfl) ?hS ?_
  rotate_left
  iterate 6 first
    | (refine chain_skip (by rfl) (by rfl) ?_)
    | (apply chain_want (by rfl)
       · intro act wx hS hr
         simp at hr
         have h1 : (0 : Int) ≤ (c : Int) / 16 := by omega
         have h2 : (c : Int) / 16 < 16 := by omega
         have h3 : (0 : Int) ≤ (c : Int) % 16 := by omega
         have h4 : (c : Int) % 16 < 16 := by omega
         go_simp
         (try go_ints)
         first
           | (rw [dgt_idx]; exact Done.same)
           | exact Done.same
      )
  show ∀ w', _ → _
  intro wz hz
  simp [Act.put]
  case hS => exact Below.refl _ _
  have HZ := Lib.hid (hz.trans (((Below.refl _ _).alloc (Nat.le_refl _) (.cells #[.int .u8 ((digT (c / 16)).toNat : Int), .int .u8 ((digT (c % 16)).toNat : Int)] 5)).mono hz.size))
  have hk := Blk.new wz #[.int .u8 ((digT (c / 16)).toNat : Int), .int .u8 ((digT (c % 16)).toNat : Int)] 5
  have hcv : (convert 65 9 (.slice (some ⟨wz.heap.size, 0, none⟩) 2 2)).run Tryz.prog (wz.alloc (.cells #[.int .u8 ((digT (c / 16)).toNat : Int), .int .u8 ((digT (c % 16)).toNat : Int)] 5)) = .ok (.string (bs (hexT c))) (wz.alloc (.cells #[.int .u8 ((digT (c / 16)).toNat : Int), .int .u8 ((digT (c % 16)).toNat : Int)] 5)) :=
    run_convert_bytes_back (P := Tryz.prog) (wz.alloc (.cells #[.int .u8 ((digT (c / 16)).toNat : Int), .int .u8 ((digT (c % 16)).toNat : Int)] 5)) 65 9 5 ⟨wz.heap.size, 0, none⟩ 2 [digT (c / 16), digT (c % 16)] Tryz.underlying65 Tryz.underlying5 Tryz.underlying9 (fun j hj => by
      have hj2 : j < 2 := hj
      obtain rfl | rfl : j = 0 ∨ j = 1 := by omega
      · exact (hk.cell 0).trans rfl
      · exact (hk.cell 1).trans rfl)
  clear hz hk
  go_wp2
  go_ret
  exact ⟨rfl, HZ.out⟩
set_option maxHeartbeats 4000000 in
set_option maxRecDepth 100000 in
theorem row_any6 (a b : Nat) (ha : a < 256) (hb : b < 256) (w : World) : Calls Tryz.prog 105 #[.int .u8 (a : Int), .int .u8 (b : Int)] w (Ans w (.string (bs (rowT a b)))) := by
  go_enter Tryz.func105, Tryz.ntmps105
  by_cases he : a = b
  · subst he
    have hz : ((a : Int) == (a : Int)) = true := by simp
    have HR : Hid (rowT a a = hexT a) := by unfold Hid rowT; rw [if_pos rfl]
    go_wp2_with fail
    refine (hex_any6 a ha _).mono ?_; rintro e w2 ⟨rfl, hb2⟩
    have HB := Lib.hid hb2
    clear hb2
    go_wp2
    go_ret
    exact ⟨by rw [HR.out]; rfl, HB.out⟩
  · have hz : ((a : Int) == (b : Int)) = false := by rw [beq_eq_false_iff_ne]; omega
    have HR : Hid (rowT a b = hexT a ++ 45 :: hexT b) := by unfold Hid rowT; rw [if_neg he]
    go_wp2_with fail
    refine (hex_any6 a ha _).mono ?_; rintro e w2 ⟨rfl, hb2⟩
    go_wp2_with fail
    refine (hex_any6 b hb _).mono ?_; rintro e w3 ⟨rfl, hb3⟩
    have HB := Lib.hid (hb2.trans (hb3.mono hb2.size))
    clear hb2 hb3
    have HC : Hid (bs (hexT a) ++ ⟨#[45]⟩ ++ bs (hexT b) = bs (rowT a b)) := by
      unfold Hid
      rw [HR.out, show (⟨#[45]⟩ : ByteArray) = bs [45] from rfl, bs_append, bs_append, List.append_assoc]; rfl
    go_wp2
    go_ret
    exact ⟨by rw [← HC.out]; rfl, HB.out⟩
end Go.Proofs.YtcgjmnhmhiddkaaGreatDoor
/- The pieces of a text are read to tokens: plain mathematics. -/
namespace Go.Proofs.YtcgjmnhmhiddkaaGreatDoor
open Go
set_option linter.unusedVariables false
set_option linter.unusedSimpArgs false

/-- A number's digits. -/
def decT (n : Nat) : List UInt8 := if n < 10 then [UInt8.ofNat (48 + n)] else if n < 100 then [UInt8.ofNat (48 + n / 10), UInt8.ofNat (48 + n % 10)] else [UInt8.ofNat (48 + n / 100), UInt8.ofNat (48 + n / 10 % 10), UInt8.ofNat (48 + n % 10)]
def repT (lo hi : Nat) : List UInt8 := 123 :: (decT lo ++ 44 :: (decT hi ++ [125]))
end Go.Proofs.YtcgjmnhmhiddkaaGreatDoor
