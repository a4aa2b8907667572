/- The twin of layer 6: digits, numbers, levels: walked. -/
import Derived.Test.YtacaloddhklkiaaDoorM22
import Derived.Test.YtacaloddhklkiaaDoorM30
import Derived.Test.YtacaloddhklkiaaDoorM21
import Derived.Test.YtacaloddhklkiaaDoorM23
import Derived.Test.YtacaloddhklkiaaDoorM28
namespace Go.Proofs.YtacaloddhklkiaaDoor
open Go Go.RowKit
set_option linter.unusedVariables false
set_option linter.unusedSimpArgs false
set_option maxRecDepth 100000

set_option maxHeartbeats 4000000 in
theorem rhex_any (c : Nat) (hc : c < 256) (w : World) : Calls Tryd.prog 31 #[.int .i64 (c : Int)] w (Ans w (.string (bs (hexT c)))) := by
  have h1 : (0 : Int) ≤ (c : Int) / 16 := by omega
  have h2 : (c : Int) / 16 < 16 := by omega
  have h3 : (0 : Int) ≤ (c : Int) % 16 := by omega
  have h4 : (c : Int) % 16 < 16 := by omega
  have h5 : ((c : Int) / 16).toNat = c / 16 := by omega
  have h6 : ((c : Int) % 16).toNat = c % 16 := by omega
  have t1 : (c : Int).tdiv 16 = (c : Int) / 16 := Int.tdiv_eq_ediv_of_nonneg (by omega)
  have t2 : (c : Int).tmod 16 = (c : Int) % 16 := Int.tmod_eq_emod_of_nonneg (by omega)
  go_enter Tryd.func31, Tryd.ntmps31
  go_upto_region 2 with (fail)
  refine wp_region_stable_tail 8 (S := (Below w.heap.size w)) (hSt := fun _ _ h hb => h.trans (hb.mono h.size)) (plan := [[(3, none)], [(0, none)], [(5, some 1)], [(4, some 0), (6, some 2)], [(3, none)], [(0, none)], [(9, some 5)], [(8, some 4), (10, some 6)]]) rfl rfl (by kernel_rfl) (by kernel_rfl) (by kernel_rfl) (by kernel_rfl) ?hS ?_
  rotate_left
  iterate 8 first
    | (refine chain_skip (by rfl) (by rfl) ?_)
    | (apply chain_want (by rfl)
       · intro act wx hS hr
         simp at hr
         have h1 : (0 : Int) ≤ (c : Int) / 16 := by omega
         go_simp
         (try go_ints)
         first
           | (rw [dgt_idx]; exact Done.same)
           | exact Done.same
      )
  show ∀ w', _ → _
  intro wz hz
  simp [Act.put]
  case hS => exact Below.refl _ _
  have HZ := Lib.hid (hz.trans (((Below.refl _ _).alloc (Nat.le_refl _) (.cells #[.int .u8 ((digT (c / 16)).toNat : Int), .int .u8 ((digT (c % 16)).toNat : Int)] 5)).mono hz.size))
  have hk := Blk.new wz #[.int .u8 ((digT (c / 16)).toNat : Int), .int .u8 ((digT (c % 16)).toNat : Int)] 5
  have hcv : (convert 49 9 (.slice (some ⟨wz.heap.size, 0, none⟩) 2 2)).run Tryd.prog (wz.alloc (.cells #[.int .u8 ((digT (c / 16)).toNat : Int), .int .u8 ((digT (c % 16)).toNat : Int)] 5)) = .ok (.string (bs (hexT c))) (wz.alloc (.cells #[.int .u8 ((digT (c / 16)).toNat : Int), .int .u8 ((digT (c % 16)).toNat : Int)] 5)) :=
    run_convert_bytes_back (P := Tryd.prog) (wz.alloc (.cells #[.int .u8 ((digT (c / 16)).toNat : Int), .int .u8 ((digT (c % 16)).toNat : Int)] 5)) 49 9 5 ⟨wz.heap.size, 0, none⟩ 2 [digT (c / 16), digT (c % 16)] Tryd.underlying49 Tryd.underlying5 Tryd.underlying9 (fun j hj => by
      have hj2 : j < 2 := hj
      obtain rfl | rfl : j = 0 ∨ j = 1 := by omega
      · exact (hk.cell 0).trans rfl
      · exact (hk.cell 1).trans rfl)
  clear hz hk
  go_wp2
  go_ret
  exact ⟨rfl, HZ.out⟩
theorem newb_dig (w : World) (d : UInt8) (x : Int) (h : x = (d.toNat : Int)) : NewB [d] (.slice (some ⟨w.heap.size, 0, none⟩) 1 1) (w.alloc (.cells #[.int .u8 x] 5)) := by
  subst h
  exact ⟨w.heap.size, rfl, Blk.new _ _ _⟩
theorem dig_nat (n : Nat) (hn : n < 10) : 48 + (n : Int) = ((UInt8.ofNat (48 + n)).toNat : Int) := by rw [UInt8.toNat_ofNat']; omega
theorem rdec1 (n : Nat) (hn : n < 10) (w : World) : Calls Tryd.prog 42 #[.int .i64 (n : Int)] w (Ans w (.string (bs [UInt8.ofNat (48 + n)]))) := by
  have hlt : (n : Int) < 10 := by omega
  have h48 := dig_nat n hn
  generalize UInt8.ofNat (48 + n) = d at *
  have hcv := conv_newb (newb_dig w d _ h48)
  have hn8 : (48 + (n : Int)) ≤ 255 := by omega
  clear h48
  go_enter Tryd.func42, Tryd.ntmps42
  go_wp2
  go_ret
  exact ⟨rfl, (Below.refl _ _).alloc (Nat.le_refl _) _⟩
theorem rdec_step (n : Nat) (h1 : 10 ≤ n) (h2 : n < 1000) (L : List UInt8) (hL : L.length ≤ 10) (H : ∀ w', Calls Tryd.prog 42 #[.int .i64 ((n / 10 : Nat) : Int)] w' (Ans w' (.string (bs L)))) (w : World) :
    Calls Tryd.prog 42 #[.int .i64 (n : Int)] w (Ans w (.string (bs (L ++ [UInt8.ofNat (48 + n % 10)])))) := by
  have hlt : ¬ (n : Int) < 10 := by omega
  have t1 : (n : Int).tdiv 10 = ((n / 10 : Nat) : Int) := by rw [Int.tdiv_eq_ediv_of_nonneg (by omega)]; omega
  have t2 : (n : Int).tmod 10 = ((n % 10 : Nat) : Int) := by rw [Int.tmod_eq_emod_of_nonneg (by omega)]; omega
  have t3 : (n : Int) / 10 = ((n / 10 : Nat) : Int) := by omega
  have t4 : (n : Int) % 10 = ((n % 10 : Nat) : Int) := by omega
  have hq : n / 10 < 100 := by omega
  have hr : n % 10 < 10 := by omega
  have h48 := dig_nat (n % 10) hr
  have HH := Lib.hid H
  clear H
  generalize UInt8.ofNat (48 + n % 10) = d at *
  generalize n / 10 = q at *
  generalize n % 10 = r at *
  have HD := Lib.hid h48
  clear h48
  have hcat : bs L ++ bs [d] = bs (L ++ [d]) := bs_append _ _
  have z1 : (bs [d]).size = 1 := rfl
  have z2 : (bs L).size = L.length := bs_size L
  have hs1 : ¬ 9223372036854775807 < L.length + 1 := by omega
  have hs2 : ¬ 9223372036854775807 < (bs L).size + 1 := by omega
  have hr8 : 48 + (r : Int) ≤ 255 := by omega
  go_enter Tryd.func42, Tryd.ntmps42
  go_upto_region 3 with (fail)
  refine wp_region_stable_tail 9 (S := (Below w.heap.size w)) (hSt := fun _ _ h hb => h.trans (hb.mono h.size)) (plan := [[(0, none)], [(10, some 0)], [(11, some 1)], [(0, none)], [(13, some 3)], [(14, some 4)], [(15, some 5)], [(16, some 6)], [(17, some 7)]]) rfl rfl (by kernel_rfl) (by kernel_rfl) (by kernel_rfl) (by kernel_rfl) ?hS ?_
  rotate_left
  iterate 7 first
    | (refine chain_skip (by rfl) (by rfl) ?_)
    | (apply chain_want (by rfl)
       · intro act wx hS hr
         simp at hr
         go_simp
         (try go_ints)
         first
           | (obtain ⟨v, hr2, hrow⟩ := hr; simp only [hr2, Option.getD_some]; rw [conv_newb hrow]; exact Done.same (v := .string (bs [d])))
           | (refine (HH.out _).mono ?_; rintro e w' ⟨rfl, hb⟩; exact Done.mk hb)
           | exact Done.same
      )
  (refine chain_rel (NewB [d]) (NewB.later [d]) (by rfl) ?_ ?_
   · intro act wx hS hr
     simp at hr
     all_goals go_simp
     exact Done.rel ((Below.refl _ _).alloc (Nat.le_refl _) _) (newb_dig _ d _ HD.out)
  )
  iterate 1 first
    | (refine chain_skip (by rfl) (by rfl) ?_)
    | (apply chain_want (by rfl)
       · intro act wx hS hr
         simp at hr
         go_simp
         (try go_ints)
         first
           | (obtain ⟨v, hr2, hrow⟩ := hr; simp only [hr2, Option.getD_some]; rw [conv_newb hrow]; exact Done.same (v := .string (bs [d])))
           | (refine (HH.out _).mono ?_; rintro e w' ⟨rfl, hb⟩; exact Done.mk hb)
           | exact Done.same
      )
  show ∀ w', _ → _
  intro wz hz
  simp [Act.put]
  case hS => exact Below.refl _ _
  intro v hv
  have HZ := Lib.hid hz
  clear hz hv
  go_wp2
  go_ret
  exact ⟨rfl, HZ.out⟩
theorem rdec_any (n : Nat) (hn : n < 256) (w : World) : Calls Tryd.prog 42 #[.int .i64 (n : Int)] w (Ans w (.string (bs (decT n)))) := by
  unfold decT
  split
  · exact rdec1 n (by omega) w
  · rename_i h
    have two : ∀ m : Nat, 10 ≤ m → m < 100 → ∀ w, Calls Tryd.prog 42 #[.int .i64 (m : Int)] w (Ans w (.string (bs [UInt8.ofNat (48 + m / 10), UInt8.ofNat (48 + m % 10)]))) := fun m h1 h2 w =>
      rdec_step m h1 (by omega) [UInt8.ofNat (48 + m / 10)] (by simp) (fun w' => rdec1 (m / 10) (by omega) w') w
    split
    · exact two n (by omega) (by omega) w
    · have e : n / 10 / 10 = n / 100 := by omega
      have := rdec_step n (by omega) (by omega) _ (by simp) (fun w' => two (n / 10) (by omega) (by omega) w') w
      rw [e] at this
      exact this
theorem level_any (k : Int) (w : World) : Calls Tryd.prog 41 #[.int .i64 k] w (Pure w (.int .i64 (levK k))) := by
  go_enter Tryd.func41, Tryd.ntmps41
  unfold levK
  by_cases h5 : k = 5
  · subst h5; go_wp2; go_ret; exact ⟨rfl, rfl⟩
  have z5 : (k == 5) = false := by simp [h5]
  by_cases h4 : k = 4
  · subst h4; go_wp2; go_ret; exact ⟨rfl, rfl⟩
  have z4 : (k == 4) = false := by simp [h4]
  by_cases h6 : k = 6
  · subst h6; go_wp2; go_ret; exact ⟨rfl, rfl⟩
  have z6 : (k == 6) = false := by simp [h6]
  by_cases h7 : k = 7
  · subst h7; go_wp2; go_ret; exact ⟨rfl, rfl⟩
  have z7 : (k == 7) = false := by simp [h7]
  rw [if_neg h5, if_neg h4, if_neg (by omega)]
  go_wp2
  go_ret
  exact ⟨rfl, rfl⟩
end Go.Proofs.YtacaloddhklkiaaDoor
/- A class' text, told byte by byte: plain mathematics. -/
namespace Go.Proofs.YtacaloddhklkiaaDoor
open Go
set_option linter.unusedVariables false
set_option linter.unusedSimpArgs false

def begC (c : BitVec 256) (p : Nat) : Prop := p = 0 ∨ c.getLsbD (p - 1) = false
def endC (c : BitVec 256) (p : Nat) : Prop := p = 255 ∨ c.getLsbD (p + 1) = false
instance (c : BitVec 256) (p : Nat) : Decidable (begC c p) := by unfold begC; infer_instance
instance (c : BitVec 256) (p : Nat) : Decidable (endC c p) := by unfold endC; infer_instance
def stepCl (c : BitVec 256) (s : List UInt8) (p : Nat) : List UInt8 :=
  if c.getLsbD p = false then s
  else ((if begC c p ∧ s ≠ [60] then s ++ [44] else s) ++ (if begC c p then hexT p else [])) ++ (if endC c p ∧ ¬ begC c p then 45 :: hexT p else [])
def refF (c : BitVec 256) : Nat → Nat → List UInt8 → List UInt8
  | 0, _, s => s
  | f + 1, p, s => refF c f (p + 1) (stepCl c s p)
theorem rowsF_more (c : BitVec 256) : ∀ (f g p : Nat), 256 ≤ p + f → 256 ≤ p + g → rowsF c f p = rowsF c g p
  | 0, 0, p, _, _ => rfl
  | 0, g + 1, p, h, _ => by unfold rowsF; rw [if_pos (by omega)]
  | f + 1, 0, p, _, h => by unfold rowsF; rw [if_pos (by omega)]
  | f + 1, g + 1, p, hf, hg => by
    unfold rowsF
    split
    · rfl
    split
    · exact rowsF_more c f g (p + 1) (by omega) (by omega)
    · rename_i h1 h2
      have k := lastF_ok c 256 p (by omega) (by omega) (by simpa using h2)
      rw [rowsF_more c f g _ (by omega) (by omega)]
/-- Within a row. -/
theorem ref_in (c : BitVec 256) (q : Nat) (hq : q < 256) (he : endC c q) : ∀ (n j k : Nat) (s : List UInt8), j + n = q → 0 < j → (∀ i, j - 1 ≤ i → i ≤ q → c.getLsbD i = true) → refF c (k + (n + 1)) j s = refF c k (q + 1) (s ++ 45 :: hexT q)
  | 0, j, k, s, hj, h0, hb => by
    have e : j = q := by omega
    subst e
    show refF c k (j + 1) (stepCl c s j) = _
    have nb : ¬ begC c j := by
      rintro (h | h)
      · omega
      · rw [hb (j - 1) (by omega) (by omega)] at h; cases h
    unfold stepCl
    rw [if_neg (by rw [hb j (by omega) (by omega)]; decide), if_neg (fun h => nb h.1), if_neg nb, if_pos ⟨he, nb⟩, List.append_nil]
  | n + 1, j, k, s, hj, h0, hb => by
    show refF c (k + (n + 1)) (j + 1) (stepCl c s j) = _
    have nb : ¬ begC c j := by
      rintro (h | h)
      · omega
      · rw [hb (j - 1) (by omega) (by omega)] at h; cases h
    have ne : ¬ endC c j := by
      rintro (h | h)
      · omega
      · rw [hb (j + 1) (by omega) (by omega)] at h; cases h
    have e : stepCl c s j = s := by
      unfold stepCl
      rw [if_neg (by rw [hb j (by omega) (by omega)]; decide), if_neg (fun h => nb h.1), if_neg nb, if_neg (fun h => ne h.1), List.append_nil, List.append_nil]
    rw [e]
    exact ref_in c q hq he n (j + 1) k s (by omega) (by omega) (fun i h1 h2 => hb i (by omega) h2)
def sepC (s : List UInt8) : List UInt8 := if s ≠ [60] then [44] else []
def tailC (s : List UInt8) (l : List (List UInt8)) : List UInt8 := if l = [] then [] else sepC s ++ joinC l
theorem joinC_cons (x : List UInt8) (l : List (List UInt8)) : joinC (x :: l) = x ++ (if l = [] then [] else 44 :: joinC l) := by
  cases l with
  | nil => simp [joinC]
  | cons y l => simp [joinC]
/-- A whole row. -/
theorem ref_row (c : BitVec 256) (p q k : Nat) (s : List UInt8) (hpq : p ≤ q) (hq : q < 256) (hb : ∀ i, p ≤ i → i ≤ q → c.getLsbD i = true) (hbeg : begC c p) (he : endC c q) : refF c (k + (q + 1 - p)) p s = refF c k (q + 1) (s ++ (sepC s ++ rowT p q)) := by
  have first : stepCl c s p = (s ++ sepC s) ++ hexT p := by
    unfold stepCl sepC
    rw [if_neg (by rw [hb p (by omega) hpq]; decide), if_pos hbeg, if_neg (show ¬ (endC c p ∧ ¬ begC c p) from fun h => h.2 hbeg), List.append_nil]
    by_cases hs : s ≠ [60]
    · rw [if_pos ⟨hbeg, hs⟩, if_pos hs]
    · rw [if_neg (fun h => hs h.2), if_neg hs, List.append_nil]
  by_cases e : p = q
  · subst e
    rw [show k + (p + 1 - p) = k + 1 by omega]
    show refF c k (p + 1) (stepCl c s p) = _
    rw [first]
    unfold rowT
    rw [if_pos rfl, List.append_assoc]
  · obtain ⟨n, hn⟩ : ∃ n, q = p + 1 + n := ⟨q - p - 1, by omega⟩
    rw [show k + (q + 1 - p) = (k + (n + 1)) + 1 by omega]
    show refF c (k + (n + 1)) (p + 1) (stepCl c s p) = _
    rw [first, ref_in c q hq he n (p + 1) k _ (by omega) (by omega) (fun i h1 h2 => hb i (by omega) h2)]
    unfold rowT
    rw [if_neg e]
    simp only [List.append_assoc]
theorem ref_rows (c : BitVec 256) : ∀ (n f p : Nat) (s : List UInt8), f ≤ n → p + f = 256 → s ≠ [] → (c.getLsbD p = true → begC c p) → refF c f p s = s ++ tailC s ((rowsF c f p).map fun r => rowT r.1 r.2)
  | _, 0, p, s, _, hp, _, _ => by
    show s = s ++ tailC s []
    unfold tailC; rw [if_pos rfl, List.append_nil]
  | 0, f + 1, p, s, hn, _, _, _ => by omega
  | n + 1, f + 1, p, s, hn, hp, h0, hb => by
    by_cases hc : c.getLsbD p = false
    · have e : stepCl c s p = s := by unfold stepCl; rw [if_pos hc]
      have er : rowsF c (f + 1) p = rowsF c f (p + 1) := by
        show (if 256 ≤ p then _ else if c.getLsbD p = false then _ else _) = _
        rw [if_neg (by omega), if_pos hc]
      show refF c f (p + 1) (stepCl c s p) = _
      rw [e, er]
      exact ref_rows c n f (p + 1) s (by omega) (by omega) h0 (fun _ => .inr (by rw [Nat.add_sub_cancel]; exact hc))
    · have hc1 : c.getLsbD p = true := by simpa using hc
      have k := lastF_ok c 256 p (by omega) (by omega) hc1
      have er : rowsF c (f + 1) p = (p, lastF c 256 p) :: rowsF c f (lastF c 256 p + 1) := by
        show (if 256 ≤ p then _ else if c.getLsbD p = false then _ else _) = _
        rw [if_neg (by omega), if_neg hc]
      rw [er]
      generalize lastF c 256 p = q at k
      have he : endC c q := by
        by_cases h : q + 1 < 256
        · exact .inr (k.2.2.2 h)
        · exact .inl (by omega)
      obtain ⟨g, hg⟩ : ∃ g, f + 1 = g + (q + 1 - p) := ⟨f + 1 - (q + 1 - p), by omega⟩
      rw [hg, ref_row c p q g s k.1 k.2.1 k.2.2.1 (hb hc1) he]
      have nx : c.getLsbD (q + 1) = true → begC c (q + 1) := fun h => by
        rcases he with he | he
        · rw [BitVec.getLsbD_of_ge _ _ (by omega)] at h; cases h
        · rw [he] at h; cases h
      have hr2 : rowT p q ≠ [] := by unfold rowT hexT; split <;> simp
      have hl2 : 2 ≤ (rowT p q).length := by unfold rowT hexT; split <;> simp
      have hne : s ++ (sepC s ++ rowT p q) ≠ [60] := fun h => by
        have := congrArg List.length h
        simp only [List.length_append, List.length_singleton] at this
        omega
      rw [ref_rows c n g (q + 1) _ (by omega) (by omega) (by simp [h0]) nx, rowsF_more c f g (q + 1) (by omega) (by omega)]
      unfold tailC
      rw [List.map_cons, if_neg (List.cons_ne_nil _ _), joinC_cons]
      generalize (rowsF c g (q + 1)).map (fun r => rowT r.1 r.2) = l
      by_cases hl : l = []
      · rw [if_pos hl, if_pos hl]; simp
      · rw [if_neg hl, if_neg hl]
        have hs : sepC (s ++ (sepC s ++ rowT p q)) = [44] := if_pos hne
        rw [hs]; simp
/-- Told byte by byte it is the same. -/
theorem ref_cls (c : BitVec 256) : refF c 256 0 [60] ++ [62] = 60 :: (joinC (rowsT c) ++ [62]) := by
  rw [ref_rows c 256 256 0 [60] (Nat.le_refl _) rfl (by simp) (fun _ => .inl rfl)]
  unfold tailC
  show _ ++ (if rowsT c = [] then [] else sepC [60] ++ joinC (rowsT c)) ++ [62] = _
  by_cases h : rowsT c = []
  · rw [if_pos h, h]; rfl
  · rw [if_neg h]; rfl
end Go.Proofs.YtacaloddhklkiaaDoor
/- The twin of layer 6: a class' text: walked. -/
namespace Go.Proofs.YtacaloddhklkiaaDoor
open Go Go.RowKit
set_option linter.unusedVariables false
set_option linter.unusedSimpArgs false
set_option maxRecDepth 100000

structure RkS (w0 : World) (a : BitVec 256) (w : World) : Prop where
  bel : Below w0.heap.size w0 w
  box : Blk w w0.heap.size (cells4 a) 27
theorem RkS.later {w0 w w' : World} {a : BitVec 256} (h : RkS w0 a w) (hb : Below w.heap.size w w') : RkS w0 a w' := ⟨h.bel.trans (hb.mono h.bel.size), h.box.later hb⟩
def RcL (w0 : World) (a : BitVec 256) (s i : Value) (w : World) : Prop := ∃ (p f : Nat) (S : List UInt8), p ≤ 256 ∧ p + f = 256 ∧ S.length ≤ 1 + 6 * p ∧ refF a f p S = refF a 256 0 [60] ∧ s = .string (bs S) ∧ i = .int .i64 (p : Int) ∧ RkS w0 a w
theorem hexT_len (p : Nat) : (hexT p).length = 2 := rfl
theorem stepCl_no {c : BitVec 256} {s : List UInt8} {p : Nat} (h : c.getLsbD p = false) : stepCl c s p = s := by unfold stepCl; rw [if_pos h]
theorem stepCl_sep {c : BitVec 256} {s : List UInt8} {p : Nat} (h : c.getLsbD p = true) (hb : begC c p) (hs : s ≠ [60]) : stepCl c s p = (s ++ [44]) ++ hexT p := by
  unfold stepCl; rw [if_neg (by rw [h]; decide), if_pos ⟨hb, hs⟩, if_pos hb, if_neg (fun k => k.2 hb), List.append_nil]
theorem stepCl_one {c : BitVec 256} {s : List UInt8} {p : Nat} (h : c.getLsbD p = true) (hb : begC c p) (hs : s = [60]) : stepCl c s p = s ++ hexT p := by
  unfold stepCl; rw [if_neg (by rw [h]; decide), if_neg (fun k => k.2 hs), if_pos hb, if_neg (fun k => k.2 hb), List.append_nil]
theorem stepCl_end {c : BitVec 256} {s : List UInt8} {p : Nat} (h : c.getLsbD p = true) (hb : ¬ begC c p) (he : endC c p) : stepCl c s p = (s ++ [45]) ++ hexT p := by
  unfold stepCl; rw [if_neg (by rw [h]; decide), if_neg (fun k => hb k.1), if_neg hb, if_pos ⟨he, hb⟩, List.append_nil, List.append_assoc]; rfl
theorem stepCl_in {c : BitVec 256} {s : List UInt8} {p : Nat} (h : c.getLsbD p = true) (hb : ¬ begC c p) (he : ¬ endC c p) : stepCl c s p = s := by
  unfold stepCl; rw [if_neg (by rw [h]; decide), if_neg (fun k => hb k.1), if_neg hb, if_neg (fun k => he k.1), List.append_nil, List.append_nil]
set_option maxHeartbeats 64000000 in
theorem rcls_any (a : BitVec 256) (w : World) : Calls Tryd.prog 14 #[cls a] w (Ans w (.string (bs (clsT a)))) := by
  have HS0 : Hid (RkS w a (w.alloc (.cells (cells4 a) 27))) := ⟨(Below.refl _ _).alloc (Nat.le_refl _) _, Blk.new _ _ _⟩
  have HRow : Hid (∀ w', Calls Tryd.prog 17 #[.int .u8 0, .int .u8 255] w' (Ans w' (cls (rowB 0 255)))) := fun w' => refrow_any 0 255 (by omega) (by omega) w'
  have HH : Hid (∀ (p : Nat), p < 256 → ∀ w', Calls Tryd.prog 16 #[cls a, .int .u8 (p : Int)] w' (Ans w' (.bool (a.getLsbD p)))) := fun p hp w' => refhas_any a p hp w'
  obtain ⟨v, hv⟩ : ∃ v, clsT a = v := ⟨_, rfl⟩
  rw [hv]
  have HV := Lib.hid hv
  clear hv
  have heq := eql_cls
  have hg1 := eqGuard_eql
  unfold cls at HH ⊢
  unfold cells4 at HS0
  go_enter Tryd.func14, Tryd.ntmps14
  go_upto_region 1 with (fail)
  generalize w.alloc (.cells #[.int .u64 (wd a 0), .int .u64 (wd a 1), .int .u64 (wd a 2), .int .u64 (wd a 3)] 27) = w1 at *
  refine wp_region_stable (S := (RkS w a)) (hSt := fun _ _ h hb => h.later hb) (plan := [[(1, none)], [], [(7, some 0), (8, some 1)]]) (by kernel_rfl) (by kernel_rfl) (by kernel_rfl) ?hS ?_
  rotate_left
  iterate 3 first
    | (refine chain_skip (by rfl) (by rfl) ?_)
    | (apply chain_want (by rfl)
       · intro act wx hS hr
         simp at hr
         obtain ⟨d0, d1, d2, d3⟩ := four_cells6 hS.box
         go_simp
         (try go_ints)
         first
           | exact Done.same (v := cls a)
           | (refine (HRow.out _).mono ?_; rintro e w' ⟨rfl, hb⟩; exact Done.mk hb)
           | exact Done.same
      )
  show ∀ w', _ → _
  intro wz hz
  simp [Act.put]
  case hS => exact HS0.out
  have HS2 := Lib.hid hz
  clear hz HS0 HRow
  generalize hyy : (a == rowB 0 255) = y at *
  cases y with
  | true =>
    have hall : a = rowB 0 255 := by rw [beq_iff_eq] at hyy; exact hyy
    have HR : Hid (v = [46]) := by unfold Hid; rw [← HV.out]; unfold clsT; rw [if_pos hall]
    clear hall hyy
    go_wp2
    go_ret
    exact ⟨by rw [HR.out]; rfl, HS2.out.bel⟩
  | false =>
    have hall : a ≠ rowB 0 255 := by rw [beq_eq_false_iff_ne] at hyy; exact hyy
    have HR : Hid (v = refF a 256 0 [60] ++ [62]) := by unfold Hid; rw [← HV.out, ref_cls]; exact clsT_some hall
    clear hall hyy
    go_upto_region 4 with (fail)
    go_wp2
    go_loopw [3, 4] (RcL w a) (fun _ i _ => 257 - (intOf i).toNat)
    case atStart => exact ⟨0, 256, [60], by omega, by omega, by simp, rfl, rfl, rfl, HS2.out⟩
    case round =>
      obtain ⟨p, f, S, hp, hpf, hSl, hrf, rfl, rfl, hs⟩ := hrel
      have HS := Lib.hid hs
      have HRF0 := Lib.hid hrf
      clear hs hrf
      have hS6 : S.length ≤ 1537 := by omega
      have hSz : (bs S).size = S.length := bs_size S
      by_cases hlt : p < 256
      · obtain ⟨f, rfl⟩ : ∃ f', f = f' + 1 := ⟨f - 1, by omega⟩
        have HRF1 : Hid (refF a f (p + 1) (stepCl a S p) = refF a 256 0 [60]) := HRF0.out
        clear HRF0
        have hltz : (p : Int) < 256 := by omega
        have hp5 : (p : Int) ≤ 255 := by omega
        have HX := Lib.hid (rhex_any p hlt)
        have hxz : (bs (hexT p)).size = 2 := rfl
        have hl1 : ¬ 9223372036854775807 < S.length + 1 := by omega
        have hl2 : ¬ 9223372036854775807 < S.length + 2 := by omega
        have hl3 : ¬ 9223372036854775807 < S.length + 1 + 2 := by omega
        obtain ⟨x60, hx60⟩ : ∃ x, ((bs S).toList == [60]) = x := ⟨_, rfl⟩
        have hx61 : S = [60] ↔ x60 = true := by rw [← hx60, bs_toList, beq_iff_eq]
        obtain ⟨d0, d1, d2, d3⟩ := four_cells6 HS.out.box
        cases hbit : a.getLsbD p with
        | false =>
          have FH := Lib.hid (HH.out p hlt)
          rw [hbit] at FH
          have HRF : Hid (refF a f (p + 1) S = refF a 256 0 [60]) := by rw [stepCl_no hbit] at HRF1; exact HRF1
          have HLT : Hid (S.length ≤ 1 + 6 * (p + 1)) := by unfold Hid; omega
          clear hbit HRF1 hx61
          go_wp2_with fail
          refine (FH.out _).mono ?_; rintro e w3 ⟨rfl, hb⟩
          have HS3 := Lib.hid (HS.out.later hb)
          clear hb d0 d1 d2 d3
          obtain ⟨d0, d1, d2, d3⟩ := four_cells6 HS3.out.box
          go_wp2
          go_roundw
          case rel => exact ⟨p + 1, f, S, by omega, by omega, HLT.out, HRF.out, by first | rfl | rw [HST.out], by go_num, HS3.out⟩
          case measure => simp [intOf]; omega
          --BF
        | true =>
          have FH := Lib.hid (HH.out p hlt)
          rw [hbit] at FH
          have HB := Lib.hid hbit
          clear hbit
          by_cases hp0 : p = 0
          · have HBG : Hid (begC a p) := .inl hp0
            have zp0 : ((p : Int) == 0) = true := by rw [beq_iff_eq]; omega
            have h255 : p ≠ 255 := by omega
            clear hp0
            go_wp2_with fail
            refine (FH.out _).mono ?_; rintro e w3 ⟨rfl, hb⟩
            have HS3 := Lib.hid (HS.out.later hb)
            clear hb d0 d1 d2 d3
            obtain ⟨d0, d1, d2, d3⟩ := four_cells6 HS3.out.box
            by_cases hp255 : p = 255
            · have zp : ((p : Int) == 255) = true := by rw [beq_iff_eq]; omega
              exact absurd hp255 h255
            · have zp : ((p : Int) == 255) = false := by rw [beq_eq_false_iff_ne]; omega
              have hp6 : (p : Int) + 1 ≤ 255 := by omega
              have FP : Hid (∀ w', Calls Tryd.prog 16 #[.agg #[.int .u64 (wd a 0), .int .u64 (wd a 1), .int .u64 (wd a 2), .int .u64 (wd a 3)], .int .u8 ((p : Int) + 1)] w' (Ans w' (.bool (a.getLsbD (p + 1))))) := by have := HH.out (p + 1) (by omega); exact this
              cases hb2 : a.getLsbD (p + 1) with
              | false =>
                rw [hb2] at FP
                clear hb2
                go_wp2_with fail
                refine (FP.out _).mono ?_; rintro e w5 ⟨rfl, hb⟩
                have HS5 := Lib.hid (HS3.out.later hb)
                clear hb d0 d1 d2 d3
                obtain ⟨d0, d1, d2, d3⟩ := four_cells6 HS5.out.box
                cases x60 with
                | true =>
                  have HST : Hid (bs (S ++ hexT p) = bs S ++ bs (hexT p)) := (bs_append _ _).symm
                  have HRF : Hid (refF a f (p + 1) (S ++ hexT p) = refF a 256 0 [60]) := by have := HRF1.out; rw [stepCl_one HB.out HBG.out (hx61.2 rfl)] at this; exact this
                  have HLT : Hid ((S ++ hexT p).length ≤ 1 + 6 * (p + 1)) := by unfold Hid; rw [List.length_append, hexT_len]; omega
                  clear hx61 HRF1 HBG
                  go_wp2_with fail
                  refine (HX.out _).mono ?_; rintro e w9 ⟨rfl, hb⟩
                  have HS9 := Lib.hid (HS5.out.later hb)
                  clear hb
                  go_wp2
                  go_roundw
                  case rel => exact ⟨p + 1, f, (S ++ hexT p), by omega, by omega, HLT.out, HRF.out, by first | rfl | rw [HST.out], by go_num, HS9.out⟩
                  case measure => simp [intOf]; omega
                | false =>
                  have HST : Hid (bs (S ++ [44] ++ hexT p) = bs S ++ ⟨#[44]⟩ ++ bs (hexT p)) := by unfold Hid; rw [show (⟨#[44]⟩ : ByteArray) = bs [44] from rfl, bs_append, bs_append]
                  have HRF : Hid (refF a f (p + 1) (S ++ [44] ++ hexT p) = refF a 256 0 [60]) := by have := HRF1.out; rw [stepCl_sep HB.out HBG.out (fun h => by have := hx61.1 h; cases this)] at this; exact this
                  have HLT : Hid ((S ++ [44] ++ hexT p).length ≤ 1 + 6 * (p + 1)) := by unfold Hid; rw [List.length_append, List.length_append, hexT_len, List.length_singleton]; omega
                  clear hx61 HRF1 HBG
                  go_wp2_with fail
                  refine (HX.out _).mono ?_; rintro e w9 ⟨rfl, hb⟩
                  have HS9 := Lib.hid (HS5.out.later hb)
                  clear hb
                  go_wp2
                  go_roundw
                  case rel => exact ⟨p + 1, f, (S ++ [44] ++ hexT p), by omega, by omega, HLT.out, HRF.out, by first | rfl | rw [HST.out], by go_num, HS9.out⟩
                  case measure => simp [intOf]; omega
              | true =>
                rw [hb2] at FP
                clear hb2
                go_wp2_with fail
                refine (FP.out _).mono ?_; rintro e w5 ⟨rfl, hb⟩
                have HS5 := Lib.hid (HS3.out.later hb)
                clear hb d0 d1 d2 d3
                obtain ⟨d0, d1, d2, d3⟩ := four_cells6 HS5.out.box
                cases x60 with
                | true =>
                  have HST : Hid (bs (S ++ hexT p) = bs S ++ bs (hexT p)) := (bs_append _ _).symm
                  have HRF : Hid (refF a f (p + 1) (S ++ hexT p) = refF a 256 0 [60]) := by have := HRF1.out; rw [stepCl_one HB.out HBG.out (hx61.2 rfl)] at this; exact this
                  have HLT : Hid ((S ++ hexT p).length ≤ 1 + 6 * (p + 1)) := by unfold Hid; rw [List.length_append, hexT_len]; omega
                  clear hx61 HRF1 HBG
                  go_wp2_with fail
                  refine (HX.out _).mono ?_; rintro e w9 ⟨rfl, hb⟩
                  have HS9 := Lib.hid (HS5.out.later hb)
                  clear hb
                  go_wp2
                  go_roundw
                  case rel => exact ⟨p + 1, f, (S ++ hexT p), by omega, by omega, HLT.out, HRF.out, by first | rfl | rw [HST.out], by go_num, HS9.out⟩
                  case measure => simp [intOf]; omega
                | false =>
                  have HST : Hid (bs (S ++ [44] ++ hexT p) = bs S ++ ⟨#[44]⟩ ++ bs (hexT p)) := by unfold Hid; rw [show (⟨#[44]⟩ : ByteArray) = bs [44] from rfl, bs_append, bs_append]
                  have HRF : Hid (refF a f (p + 1) (S ++ [44] ++ hexT p) = refF a 256 0 [60]) := by have := HRF1.out; rw [stepCl_sep HB.out HBG.out (fun h => by have := hx61.1 h; cases this)] at this; exact this
                  have HLT : Hid ((S ++ [44] ++ hexT p).length ≤ 1 + 6 * (p + 1)) := by unfold Hid; rw [List.length_append, List.length_append, hexT_len, List.length_singleton]; omega
                  clear hx61 HRF1 HBG
                  go_wp2_with fail
                  refine (HX.out _).mono ?_; rintro e w9 ⟨rfl, hb⟩
                  have HS9 := Lib.hid (HS5.out.later hb)
                  clear hb
                  go_wp2
                  go_roundw
                  case rel => exact ⟨p + 1, f, (S ++ [44] ++ hexT p), by omega, by omega, HLT.out, HRF.out, by first | rfl | rw [HST.out], by go_num, HS9.out⟩
                  case measure => simp [intOf]; omega
          · have zm : ((p : Int) == 0) = false := by rw [beq_eq_false_iff_ne]; omega
            have hm0 : (0 : Int) ≤ (p : Int) - 1 := by omega
            have hm5 : (p : Int) - 1 ≤ 255 := by omega
            have FM : Hid (∀ w', Calls Tryd.prog 16 #[.agg #[.int .u64 (wd a 0), .int .u64 (wd a 1), .int .u64 (wd a 2), .int .u64 (wd a 3)], .int .u8 ((p : Int) - 1)] w' (Ans w' (.bool (a.getLsbD (p - 1))))) := by have := HH.out (p - 1) (by omega); rw [show ((p - 1 : Nat) : Int) = (p : Int) - 1 by omega] at this; exact this
            cases hb1 : a.getLsbD (p - 1) with
            | false =>
              rw [hb1] at FM
              have HBG : Hid (begC a p) := .inr hb1
              clear hb1 hp0
              go_wp2_with fail
              refine (FH.out _).mono ?_; rintro e w3 ⟨rfl, hb⟩
              have HS3 := Lib.hid (HS.out.later hb)
              clear hb d0 d1 d2 d3
              obtain ⟨d0, d1, d2, d3⟩ := four_cells6 HS3.out.box
              go_wp2_with fail
              refine (FM.out _).mono ?_; rintro e w4 ⟨rfl, hb⟩
              have HS4 := Lib.hid (HS3.out.later hb)
              clear hb d0 d1 d2 d3
              obtain ⟨d0, d1, d2, d3⟩ := four_cells6 HS4.out.box
              by_cases hp255 : p = 255
              · have zp : ((p : Int) == 255) = true := by rw [beq_iff_eq]; omega
                clear hp255
                cases x60 with
                | true =>
                  have HST : Hid (bs (S ++ hexT p) = bs S ++ bs (hexT p)) := (bs_append _ _).symm
                  have HRF : Hid (refF a f (p + 1) (S ++ hexT p) = refF a 256 0 [60]) := by have := HRF1.out; rw [stepCl_one HB.out HBG.out (hx61.2 rfl)] at this; exact this
                  have HLT : Hid ((S ++ hexT p).length ≤ 1 + 6 * (p + 1)) := by unfold Hid; rw [List.length_append, hexT_len]; omega
                  clear hx61 HRF1 HBG
                  go_wp2_with fail
                  refine (HX.out _).mono ?_; rintro e w9 ⟨rfl, hb⟩
                  have HS9 := Lib.hid (HS4.out.later hb)
                  clear hb
                  go_wp2
                  go_roundw
                  case rel => exact ⟨p + 1, f, (S ++ hexT p), by omega, by omega, HLT.out, HRF.out, by first | rfl | rw [HST.out], by go_num, HS9.out⟩
                  case measure => simp [intOf]; omega
                | false =>
                  have HST : Hid (bs (S ++ [44] ++ hexT p) = bs S ++ ⟨#[44]⟩ ++ bs (hexT p)) := by unfold Hid; rw [show (⟨#[44]⟩ : ByteArray) = bs [44] from rfl, bs_append, bs_append]
                  have HRF : Hid (refF a f (p + 1) (S ++ [44] ++ hexT p) = refF a 256 0 [60]) := by have := HRF1.out; rw [stepCl_sep HB.out HBG.out (fun h => by have := hx61.1 h; cases this)] at this; exact this
                  have HLT : Hid ((S ++ [44] ++ hexT p).length ≤ 1 + 6 * (p + 1)) := by unfold Hid; rw [List.length_append, List.length_append, hexT_len, List.length_singleton]; omega
                  clear hx61 HRF1 HBG
                  go_wp2_with fail
                  refine (HX.out _).mono ?_; rintro e w9 ⟨rfl, hb⟩
                  have HS9 := Lib.hid (HS4.out.later hb)
                  clear hb
                  go_wp2
                  go_roundw
                  case rel => exact ⟨p + 1, f, (S ++ [44] ++ hexT p), by omega, by omega, HLT.out, HRF.out, by first | rfl | rw [HST.out], by go_num, HS9.out⟩
                  case measure => simp [intOf]; omega
              · have zp : ((p : Int) == 255) = false := by rw [beq_eq_false_iff_ne]; omega
                have hp6 : (p : Int) + 1 ≤ 255 := by omega
                have FP : Hid (∀ w', Calls Tryd.prog 16 #[.agg #[.int .u64 (wd a 0), .int .u64 (wd a 1), .int .u64 (wd a 2), .int .u64 (wd a 3)], .int .u8 ((p : Int) + 1)] w' (Ans w' (.bool (a.getLsbD (p + 1))))) := by have := HH.out (p + 1) (by omega); exact this
                cases hb2 : a.getLsbD (p + 1) with
                | false =>
                  rw [hb2] at FP
                  clear hb2
                  go_wp2_with fail
                  refine (FP.out _).mono ?_; rintro e w5 ⟨rfl, hb⟩
                  have HS5 := Lib.hid (HS4.out.later hb)
                  clear hb d0 d1 d2 d3
                  obtain ⟨d0, d1, d2, d3⟩ := four_cells6 HS5.out.box
                  cases x60 with
                  | true =>
                    have HST : Hid (bs (S ++ hexT p) = bs S ++ bs (hexT p)) := (bs_append _ _).symm
                    have HRF : Hid (refF a f (p + 1) (S ++ hexT p) = refF a 256 0 [60]) := by have := HRF1.out; rw [stepCl_one HB.out HBG.out (hx61.2 rfl)] at this; exact this
                    have HLT : Hid ((S ++ hexT p).length ≤ 1 + 6 * (p + 1)) := by unfold Hid; rw [List.length_append, hexT_len]; omega
                    clear hx61 HRF1 HBG
                    go_wp2_with fail
                    refine (HX.out _).mono ?_; rintro e w9 ⟨rfl, hb⟩
                    have HS9 := Lib.hid (HS5.out.later hb)
                    clear hb
                    go_wp2
                    go_roundw
                    case rel => exact ⟨p + 1, f, (S ++ hexT p), by omega, by omega, HLT.out, HRF.out, by first | rfl | rw [HST.out], by go_num, HS9.out⟩
                    case measure => simp [intOf]; omega
                  | false =>
                    have HST : Hid (bs (S ++ [44] ++ hexT p) = bs S ++ ⟨#[44]⟩ ++ bs (hexT p)) := by unfold Hid; rw [show (⟨#[44]⟩ : ByteArray) = bs [44] from rfl, bs_append, bs_append]
                    have HRF : Hid (refF a f (p + 1) (S ++ [44] ++ hexT p) = refF a 256 0 [60]) := by have := HRF1.out; rw [stepCl_sep HB.out HBG.out (fun h => by have := hx61.1 h; cases this)] at this; exact this
                    have HLT : Hid ((S ++ [44] ++ hexT p).length ≤ 1 + 6 * (p + 1)) := by unfold Hid; rw [List.length_append, List.length_append, hexT_len, List.length_singleton]; omega
                    clear hx61 HRF1 HBG
                    go_wp2_with fail
                    refine (HX.out _).mono ?_; rintro e w9 ⟨rfl, hb⟩
                    have HS9 := Lib.hid (HS5.out.later hb)
                    clear hb
                    go_wp2
                    go_roundw
                    case rel => exact ⟨p + 1, f, (S ++ [44] ++ hexT p), by omega, by omega, HLT.out, HRF.out, by first | rfl | rw [HST.out], by go_num, HS9.out⟩
                    case measure => simp [intOf]; omega
                | true =>
                  rw [hb2] at FP
                  clear hb2
                  go_wp2_with fail
                  refine (FP.out _).mono ?_; rintro e w5 ⟨rfl, hb⟩
                  have HS5 := Lib.hid (HS4.out.later hb)
                  clear hb d0 d1 d2 d3
                  obtain ⟨d0, d1, d2, d3⟩ := four_cells6 HS5.out.box
                  cases x60 with
                  | true =>
                    have HST : Hid (bs (S ++ hexT p) = bs S ++ bs (hexT p)) := (bs_append _ _).symm
                    have HRF : Hid (refF a f (p + 1) (S ++ hexT p) = refF a 256 0 [60]) := by have := HRF1.out; rw [stepCl_one HB.out HBG.out (hx61.2 rfl)] at this; exact this
                    have HLT : Hid ((S ++ hexT p).length ≤ 1 + 6 * (p + 1)) := by unfold Hid; rw [List.length_append, hexT_len]; omega
                    clear hx61 HRF1 HBG
                    go_wp2_with fail
                    refine (HX.out _).mono ?_; rintro e w9 ⟨rfl, hb⟩
                    have HS9 := Lib.hid (HS5.out.later hb)
                    clear hb
                    go_wp2
                    go_roundw
                    case rel => exact ⟨p + 1, f, (S ++ hexT p), by omega, by omega, HLT.out, HRF.out, by first | rfl | rw [HST.out], by go_num, HS9.out⟩
                    case measure => simp [intOf]; omega
                  | false =>
                    have HST : Hid (bs (S ++ [44] ++ hexT p) = bs S ++ ⟨#[44]⟩ ++ bs (hexT p)) := by unfold Hid; rw [show (⟨#[44]⟩ : ByteArray) = bs [44] from rfl, bs_append, bs_append]
                    have HRF : Hid (refF a f (p + 1) (S ++ [44] ++ hexT p) = refF a 256 0 [60]) := by have := HRF1.out; rw [stepCl_sep HB.out HBG.out (fun h => by have := hx61.1 h; cases this)] at this; exact this
                    have HLT : Hid ((S ++ [44] ++ hexT p).length ≤ 1 + 6 * (p + 1)) := by unfold Hid; rw [List.length_append, List.length_append, hexT_len, List.length_singleton]; omega
                    clear hx61 HRF1 HBG
                    go_wp2_with fail
                    refine (HX.out _).mono ?_; rintro e w9 ⟨rfl, hb⟩
                    have HS9 := Lib.hid (HS5.out.later hb)
                    clear hb
                    go_wp2
                    go_roundw
                    case rel => exact ⟨p + 1, f, (S ++ [44] ++ hexT p), by omega, by omega, HLT.out, HRF.out, by first | rfl | rw [HST.out], by go_num, HS9.out⟩
                    case measure => simp [intOf]; omega
            | true =>
              rw [hb1] at FM
              have HBG : Hid (¬ begC a p) := by
                rintro (h | h)
                · omega
                · rw [hb1] at h; cases h
              clear hb1 hp0
              go_wp2_with fail
              refine (FH.out _).mono ?_; rintro e w3 ⟨rfl, hb⟩
              have HS3 := Lib.hid (HS.out.later hb)
              clear hb d0 d1 d2 d3
              obtain ⟨d0, d1, d2, d3⟩ := four_cells6 HS3.out.box
              go_wp2_with fail
              refine (FM.out _).mono ?_; rintro e w4 ⟨rfl, hb⟩
              have HS4 := Lib.hid (HS3.out.later hb)
              clear hb d0 d1 d2 d3
              obtain ⟨d0, d1, d2, d3⟩ := four_cells6 HS4.out.box
              by_cases hp255 : p = 255
              · have zp : ((p : Int) == 255) = true := by rw [beq_iff_eq]; omega
                have HEN : Hid (endC a p) := .inl hp255
                clear hp255
                have HST : Hid (bs (S ++ [45] ++ hexT p) = bs S ++ ⟨#[45]⟩ ++ bs (hexT p)) := by unfold Hid; rw [show (⟨#[45]⟩ : ByteArray) = bs [45] from rfl, bs_append, bs_append]
                have HRF : Hid (refF a f (p + 1) (S ++ [45] ++ hexT p) = refF a 256 0 [60]) := by have := HRF1.out; rw [stepCl_end HB.out HBG.out HEN.out] at this; exact this
                have HLT : Hid ((S ++ [45] ++ hexT p).length ≤ 1 + 6 * (p + 1)) := by unfold Hid; rw [List.length_append, List.length_append, hexT_len, List.length_singleton]; omega
                clear hx61 HRF1 HBG HEN
                go_wp2_with fail
                refine (HX.out _).mono ?_; rintro e w9 ⟨rfl, hb⟩
                have HS9 := Lib.hid (HS4.out.later hb)
                clear hb
                go_wp2
                go_roundw
                case rel => exact ⟨p + 1, f, (S ++ [45] ++ hexT p), by omega, by omega, HLT.out, HRF.out, by first | rfl | rw [HST.out], by go_num, HS9.out⟩
                case measure => simp [intOf]; omega
              · have zp : ((p : Int) == 255) = false := by rw [beq_eq_false_iff_ne]; omega
                have hp6 : (p : Int) + 1 ≤ 255 := by omega
                have FP : Hid (∀ w', Calls Tryd.prog 16 #[.agg #[.int .u64 (wd a 0), .int .u64 (wd a 1), .int .u64 (wd a 2), .int .u64 (wd a 3)], .int .u8 ((p : Int) + 1)] w' (Ans w' (.bool (a.getLsbD (p + 1))))) := by have := HH.out (p + 1) (by omega); exact this
                cases hb2 : a.getLsbD (p + 1) with
                | false =>
                  rw [hb2] at FP
                  have HEN : Hid (endC a p) := .inr hb2
                  clear hb2
                  go_wp2_with fail
                  refine (FP.out _).mono ?_; rintro e w5 ⟨rfl, hb⟩
                  have HS5 := Lib.hid (HS4.out.later hb)
                  clear hb d0 d1 d2 d3
                  obtain ⟨d0, d1, d2, d3⟩ := four_cells6 HS5.out.box
                  have HST : Hid (bs (S ++ [45] ++ hexT p) = bs S ++ ⟨#[45]⟩ ++ bs (hexT p)) := by unfold Hid; rw [show (⟨#[45]⟩ : ByteArray) = bs [45] from rfl, bs_append, bs_append]
                  have HRF : Hid (refF a f (p + 1) (S ++ [45] ++ hexT p) = refF a 256 0 [60]) := by have := HRF1.out; rw [stepCl_end HB.out HBG.out HEN.out] at this; exact this
                  have HLT : Hid ((S ++ [45] ++ hexT p).length ≤ 1 + 6 * (p + 1)) := by unfold Hid; rw [List.length_append, List.length_append, hexT_len, List.length_singleton]; omega
                  clear hx61 HRF1 HBG HEN
                  go_wp2_with fail
                  refine (HX.out _).mono ?_; rintro e w9 ⟨rfl, hb⟩
                  have HS9 := Lib.hid (HS5.out.later hb)
                  clear hb
                  go_wp2
                  go_roundw
                  case rel => exact ⟨p + 1, f, (S ++ [45] ++ hexT p), by omega, by omega, HLT.out, HRF.out, by first | rfl | rw [HST.out], by go_num, HS9.out⟩
                  case measure => simp [intOf]; omega
                | true =>
                  rw [hb2] at FP
                  have HEN : Hid (¬ endC a p) := by
                    rintro (h | h)
                    · omega
                    · rw [hb2] at h; cases h
                  clear hb2
                  go_wp2_with fail
                  refine (FP.out _).mono ?_; rintro e w5 ⟨rfl, hb⟩
                  have HS5 := Lib.hid (HS4.out.later hb)
                  clear hb d0 d1 d2 d3
                  obtain ⟨d0, d1, d2, d3⟩ := four_cells6 HS5.out.box
                  have HRF : Hid (refF a f (p + 1) S = refF a 256 0 [60]) := by have := HRF1.out; rw [stepCl_in HB.out HBG.out HEN.out] at this; exact this
                  have HLT : Hid (S.length ≤ 1 + 6 * (p + 1)) := by unfold Hid; omega
                  clear hx61 HRF1 HBG HEN
                  go_wp2
                  go_roundw
                  case rel => exact ⟨p + 1, f, S, by omega, by omega, HLT.out, HRF.out, by first | rfl | rw [HST.out], by go_num, HS5.out⟩
                  case measure => simp [intOf]; omega
      · obtain rfl : p = 256 := by omega
        obtain rfl : f = 0 := by omega
        have HE : Hid (bs v = bs S ++ ⟨#[62]⟩) := by
          unfold Hid
          have h1 : S = refF a 256 0 [60] := HRF0.out
          rw [HR.out, ← h1, show (⟨#[62]⟩ : ByteArray) = bs [62] from rfl, bs_append]
        have hl1 : ¬ 9223372036854775807 < S.length + 1 := by omega
        clear hlt
        go_wp2
        go_ret
        exact ⟨by rw [HE.out]; rfl, HS.out.bel⟩
end Go.Proofs.YtacaloddhklkiaaDoor
/- A node's text by definition, and over its pieces: plain mathematics. -/
namespace Go.Proofs.YtacaloddhklkiaaDoor
open Go
set_option linter.unusedVariables false
set_option linter.unusedSimpArgs false

def atP (f : Int → Int → List UInt8) (n : Nd) : List UInt8 :=
  if n.kind = 1 then [40, 41]
  else if n.kind = 2 then clsT n.cls
  else if n.kind = 3 then 34 :: (n.text ++ [34])
  else if n.kind = 4 then f n.a 1 ++ f n.b 2
  else if n.kind = 5 then f n.a 0 ++ 124 :: f n.b 1
  else if n.kind = 6 then f n.a 2 ++ [42]
  else if n.kind = 7 then f n.a 2 ++ bndT n.lo n.hi
  else if n.kind = 8 then 98 :: 40 :: (f n.a 0 ++ [41])
  else 119 :: 40 :: (f n.a 0 ++ [41])
/-- The text of a node at a level. -/
def atT (l : List Nd) : Nat → Int → Int → List UInt8
  | 0, _, _ => []
  | f + 1, i, lev => if levK (atN l i.toNat).kind < lev then 40 :: (atP (atT l f) (atN l i.toNat) ++ [41]) else atP (atT l f) (atN l i.toNat)
theorem flat_part {f : Int → Int → List (List UInt8)} {g : Int → Int → List UInt8} (h : ∀ i lev, (f i lev).flatten = g i lev) (n : Nd) : (outP f (pcsN clsT bndT n)).flatten = atP g n := by
  unfold pcsN atP
  split
  · rfl
  split
  · show clsT n.cls ++ [] = _; rw [List.append_nil]
  split
  · show (34 :: (n.text ++ [34])) ++ [] = _; rw [List.append_nil]
  split
  · show (f n.a 1 ++ (f n.b 2 ++ [])).flatten = _; simp [h]
  split
  · show (f n.a 0 ++ ([124] :: (f n.b 1 ++ []))).flatten = _; simp [h]
  split
  · show (f n.a 2 ++ [[42]]).flatten = _; simp [h]
  split
  · show (f n.a 2 ++ [bndT n.lo n.hi]).flatten = _; simp [h]
  split
  · show ([98] :: outP f (Go.Proofs.YtacaloddhklkiaaDoor.brk [.nd n.a 0])).flatten = _
    rw [outP_brk]
    show ([98] :: [40] :: ((f n.a 0 ++ []) ++ [[41]])).flatten = _; simp [h]
  · show ([119] :: outP f (Go.Proofs.YtacaloddhklkiaaDoor.brk [.nd n.a 0])).flatten = _
    rw [outP_brk]
    show ([119] :: [40] :: ((f n.a 0 ++ []) ++ [[41]])).flatten = _; simp [h]
theorem flat_node (l : List Nd) : ∀ (f : Nat) (i lev : Int), (sgsF clsT bndT l f i lev).flatten = atT l f i lev
  | 0, _, _ => rfl
  | f + 1, i, lev => by
    rw [sgsF_succ]
    have key := flat_part (flat_node l f) (atN l i.toNat)
    unfold fullN
    show _ = if _ then _ else _
    split
    · rw [outP_brk]
      show ([40] :: (outP _ _ ++ [[41]])).flatten = _
      simp [key]
    · exact key
theorem textN_at (l : List Nd) : textN l = atT l l.length ((l.length : Int) - 1) 0 := flat_node l _ _ _
end Go.Proofs.YtacaloddhklkiaaDoor
