/- The document's May: walked. -/
import Derived.Test.YtpbadglfegcdjaaGreatDoorM14
import Derived.Test.YtpbadglfegcdjaaGreatDoorM31
import Derived.Test.YtpbadglfegcdjaaGreatDoorM17
import Derived.BigQuiet
import Derived.Deep.QuietTactic
namespace Go.Proofs.YtpbadglfegcdjaaGreatDoor
open Go Go.RowKit
set_option linter.unusedVariables false
set_option linter.unusedSimpArgs false

/-- What a token of such a row is. -/
def MayI (l : List Tk) (i : Nat) : Prop := 1 ≤ (tkAt l i).kind ∧ (tkAt l i).kind ≤ 10 ∧ ((tkAt l i).kind = 10 ↔ i = l.length - 1) ∧ 0 ≤ (tkAt l i).at_ ∧ (tkAt l i).text.length ≤ 100 ∧ ((tkAt l i).kind = 2 → textOk (tkAt l i).text = true) ∧ ((tkAt l i).kind = 7 → 0 ≤ (tkAt l i).lo ∧ (tkAt l i).lo ≤ (tkAt l i).hi ∧ (tkAt l i).hi ≤ 255)
theorem drewB {B : Nat} {a w : World} (h : Below B a w) (n : Nat) : Below B a (w.drewN n) := h.trans ⟨rfl, rfl, rfl, Nat.le_refl _, fun _ _ => rfl⟩
structure MayP (l : List Tk) : Prop where
  pos : 0 < l.length
  few : l.length ≤ 400
  all : ∀ i, i < l.length → MayI l i
def MayPost (l : List Tk) (w : World) (e : Ending) (w' : World) : Prop := ∃ b, e = .returned (.bool b) ∧ (b = true → MayP l) ∧ Below w.heap.size w w'
structure MayS (w0 : World) (A : Option Addr) (l : List Tk) (w : World) : Prop where
  bel : Below w0.heap.size w0 w
  row : TkRow w A l
theorem MayS.later {w0 w w' : World} {A : Option Addr} {l : List Tk} (h : MayS w0 A l w) (hb : Below w.heap.size w w') : MayS w0 A l w' := ⟨h.bel.trans (hb.mono h.bel.size), h.row.later hb⟩
def MayL (w0 : World) (A : Option Addr) (l : List Tk) (i : Value) (w : World) : Prop := ∃ k : Nat, k ≤ l.length ∧ i = .int .i64 (k : Int) ∧ (∀ j, j < k → MayI l j) ∧ MayS w0 A l w
theorem form_text {t : List UInt8} (h : formB [{ kind := 3, text := t }] = true) : textOk t = true := by
  have h2 := (((formB_iff _).1 h).2.1 0 (by simp)).2
  have e : atN [({ kind := 3, text := t } : Nd)] 0 = { kind := 3, text := t } := rfl
  rw [e] at h2
  simp only at h2
  rcases h2 with h | h | h | h | h
  · exact absurd h (by decide)
  · exact absurd h (by decide)
  · exact h.2
  · exact absurd h.1 (by decide)
  · rcases h with h | h
    · exact absurd h.1 (by decide)
    · exact absurd h.1 (by decide)
theorem IsD.rform {l : List Nd} {v : Value} {w : World} (h : IsD l v w) (hl : l.length ≤ 1073741824) (ht : Txt l) : Calls Tryz.prog 7 #[v] w (Ans w (.bool (formB l))) := by
  obtain ⟨A, c, _, rfl, hr⟩ := h
  exact refform_any l A c hl ht w hr
/-- A row of one new node. -/
def NewNd (n : Nd) (v : Value) (w : World) : Prop := ∃ b, v = .slice (some ⟨b, 0, none⟩) 1 1 ∧ Blk w b (ndC n) 43
theorem NewNd.later (n : Nd) (v : Value) (w w' : World) (h : NewNd n v w) (hb : Below w.heap.size w w') : NewNd n v w' := by
  obtain ⟨b, h1, h2⟩ := h
  exact ⟨b, h1, h2.later hb⟩
theorem NewNd.isD {n : Nd} {b : Nat} {w : World} (h : Blk w b (ndC n) 43) : IsD [n] (.agg #[.slice (some ⟨b, 0, none⟩) 1 1]) w :=
  ⟨some ⟨b, 0, none⟩, 1, by simp, rfl, fun i hi => by
    obtain rfl : i = 0 := by simpa using hi
    exact ⟨b, 0, rfl, h.lt, fun j _ => by rw [h.cell]; simp⟩⟩
set_option maxHeartbeats 16000000 in
set_option maxRecDepth 100000 in
theorem may_any (l : List Tk) (A : Option Addr) (c : Nat) (hl : l.length ≤ 9223372036854775807) (w : World) (hrow : TkRow w A l) : Calls Tryz.prog 13 #[.slice A l.length c] w (MayPost l w) := by
  have HS0 : Hid (MayS w A l w) := ⟨Below.refl _ _, hrow⟩
  clear hrow
  go_enter Tryz.func13, Tryz.ntmps13
  go_upto_region 1 with (fail)
  by_cases h0 : l.length = 0
  · have e0 : ((l.length : Int) == 0) = true := by rw [h0]; rfl
    go_wp2
    go_ret
    exact ⟨false, rfl, fun h => (by cases h), HS0.out.bel⟩
  · have e0 : ((l.length : Int) == 0) = false := beq_false_of_ne (by omega)
    by_cases h4 : 400 < l.length
    · have hz : (400 : Int) < (l.length : Int) := by omega
      go_wp2
      go_ret
      exact ⟨false, rfl, fun h => (by cases h), HS0.out.bel⟩
    · have hz : ¬ (400 : Int) < (l.length : Int) := by omega
      have HFEW : Hid (0 < l.length ∧ l.length ≤ 400) := ⟨by omega, by omega⟩
      go_wp2
      clear e0 hz
      go_loopw [3] (MayL w A l) (fun i _ => l.length - (intOf i).toNat)
      case atStart => exact ⟨0, Nat.zero_le _, rfl, fun j hj => by omega, HS0.out⟩
      case round =>
        obtain ⟨k, hk, rfl, hall, hs⟩ := hrel
        have hfew := HFEW.out.2
        have HALL := Lib.hid hall
        have HS := Lib.hid hs
        clear hall hs HS0
        by_cases hlt : k < l.length
        · obtain ⟨b, o, hA, -, -⟩ := HS.out.row k hlt
          subst hA
          have g := HS.out.row.at hlt rfl
          obtain ⟨x, hx⟩ : ∃ x, tkAt l k = x := ⟨_, rfl⟩
          rw [hx] at g
          have HX := Lib.hid hx
          clear hx
          unfold At9K at g
          obtain ⟨g0, g1, g2, g3, g4, g5, g6, g7, g8⟩ := g
          have hltz : (k : Int) < (l.length : Int) := by omega
          have hwl := wrap_of (by omega : (l.length : Int) - 1 ≤ 1073741824) (by omega : (0 : Int) ≤ (l.length : Int) - 1)
          by_cases c1 : x.kind < 1
          · skip
            go_wp2
            go_ret
            exact ⟨false, rfl, fun h => (by cases h), HS.out.bel⟩
          by_cases c2 : 10 < x.kind
          · skip
            go_wp2
            go_ret
            exact ⟨false, rfl, fun h => (by cases h), HS.out.bel⟩
          obtain ⟨b1, hb1⟩ : ∃ b1, (x.kind == 10) = b1 := ⟨_, rfl⟩
          obtain ⟨b2, hb2⟩ : ∃ b2, ((k : Int) == (l.length : Int) - 1) = b2 := ⟨_, rfl⟩
          have HB1 := Lib.hid hb1
          have HB2 := Lib.hid hb2
          have C1 := Lib.hid c1
          have C2 := Lib.hid c2
          by_cases hbb : b1 = b2
          · have HIFF : Hid (x.kind = 10 ↔ k = l.length - 1) := by
              have p1 := HB1.out
              have p2 := HB2.out
              rw [← hbb] at p2
              unfold Hid
              cases b1
              · rw [beq_eq_false_iff_ne] at p1 p2
                exact ⟨fun h => absurd h p1, fun h => absurd (by omega) p2⟩
              · rw [beq_iff_eq] at p1 p2
                exact ⟨fun _ => by omega, fun _ => p1⟩
            subst hbb
            by_cases c4 : x.at_ < 0
            · cases b1
              · skip
                go_wp2
                go_ret
                exact ⟨false, rfl, fun h => (by cases h), HS.out.bel⟩
              · skip
                go_wp2
                go_ret
                exact ⟨false, rfl, fun h => (by cases h), HS.out.bel⟩
            by_cases c5 : (100 : Int) < ((bs x.text).size : Int)
            · cases b1
              · skip
                go_wp2
                go_ret
                exact ⟨false, rfl, fun h => (by cases h), HS.out.bel⟩
              · skip
                go_wp2
                go_ret
                exact ⟨false, rfl, fun h => (by cases h), HS.out.bel⟩
            have C4 := Lib.hid c4
            have C5 := Lib.hid c5
            have HALLX : Hid (∀ j, j < k → MayI l j) := HALL.out
            cases b1
            · have HX2 : Hid (tkAt l k = x) := HX.out
              by_cases k2 : x.kind = 2
              · have e2 : (x.kind == 2) = true := by rw [k2]; rfl
                have e7 : (x.kind == 7) = false := by rw [k2]; rfl
                obtain ⟨fb, hfb⟩ : ∃ fb, formB [{ kind := 3, text := x.text }] = fb := ⟨_, rfl⟩
                have HFB := Lib.hid hfb
                have FC : Hid (∀ v w', IsD [{ kind := 3, text := x.text }] v w' → Calls Tryz.prog 7 #[v] w' (Ans w' (.bool fb))) := fun v w' h => by
                  have q := h.rform (by simp) (fun n hn => by simp at hn; subst hn; have := C5.out; rw [bs_size] at this; show x.text.length ≤ _; omega)
                  rw [hfb] at q; exact q
                have K2 := Lib.hid k2
                clear hfb k2
                cases fb
                · go_upto_region 8 with (fail)
                  refine wp_region_stable (S := (MayS w (some ⟨b, o, none⟩) l)) (hSt := fun _ _ h hb => h.later hb) (plan := [[(0, none)], [(3, none)], [(63, some 0), (64, some 1)], [(65, some 2)], [(66, some 3)], [(67, some 4)], [(68, some 5)], [(0, none)], [(3, none)], [(70, some 7), (71, some 8)], [(72, some 9)], [(73, some 10)], [(74, some 11)], [(75, some 12)], [(76, some 13)], [(77, some 14)], [(78, some 15)], [(69, some 6), (79, some 16)], [(80, some 17)], [(0, none)], [(3, none)], [(82, some 19), (83, some 20)], [(84, some 21)], [(85, some 22)], [(86, some 23)], [(87, some 24)], [(0, none)], [(3, none)], [(89, some 26), (90, some 27)], [(91, some 28)], [(92, some 29)], [(93, some 30)], [(94, some 31)], [(0, none)], [(3, none)], [(96, some 33), (97, some 34)], [(98, some 35)], [(99, some 36)], [(0, none)], [(3, none)], [(101, some 38), (102, some 39)], [(103, some 40)], [(104, some 41)], [(100, some 37), (105, some 42)], [(95, some 32), (106, some 43)], [(107, some 44)], [(0, none)], [(3, none)], [(109, some 46), (110, some 47)], [(111, some 48)], [(112, some 49)], [(113, some 50)], [(108, some 45), (114, some 51)], [(88, some 25), (115, some 52)], [(81, some 18), (116, some 53)]]) (by kernel_rfl) (by kernel_rfl) (by kernel_rfl) ?hS ?_
                  rotate_left
                  iterate 13 first
                    | (refine chain_skip (by rfl) (by rfl) ?_)
                    | (apply chain_want (by rfl)
                       · intro act wx hS hr
                         simp at hr
                         have g := hS.row.at hlt rfl
                         rw [HX2.out] at g
                         unfold At9K at g
                         obtain ⟨g0, g1, g2, g3, g4, g5, g6, g7, g8⟩ := g
                         go_simp
                         (try go_ints)
                         first
                           | (obtain ⟨v, hr2, hv⟩ := hr; simp only [hr2, Option.getD_some]; refine (FC.out _ _ hv).mono ?_; rintro e w' ⟨rfl, hb⟩; exact Done.mk hb)
                           | exact Done.same
                      )
                  (refine chain_rel (NewNd { kind := 3, text := x.text }) (NewNd.later _) (by rfl) ?_ ?_
                   · intro act wx hS hr
                     simp at hr
                     have g := hS.row.at hlt rfl
                     rw [HX2.out] at g
                     unfold At9K at g
                     obtain ⟨g0, g1, g2, g3, g4, g5, g6, g7, g8⟩ := g
                     all_goals go_simp
                     exact Done.rel ((Below.refl _ _).alloc (Nat.le_refl _) _) ⟨_, rfl, by rw [ndC_zero]; exact Blk.new _ _ _⟩
                  )
                  (refine chain_rel (IsD [{ kind := 3, text := x.text }]) (IsD.later _) (by rfl) ?_ ?_
                   · intro act wx hS hr
                     simp at hr
                     have g := hS.row.at hlt rfl
                     rw [HX2.out] at g
                     unfold At9K at g
                     obtain ⟨g0, g1, g2, g3, g4, g5, g6, g7, g8⟩ := g
                     obtain ⟨v, hr2, bb, rfl, hk⟩ := hr
                     all_goals go_simp
                     (first | exact Done.rel (Below.refl _ _) (NewNd.isD hk) | (simp only [hr2, Option.getD_some]; exact Done.rel (Below.refl _ _) (NewNd.isD hk)))
                  )
                  iterate 40 first
                    | (refine chain_skip (by rfl) (by rfl) ?_)
                    | (apply chain_want (by rfl)
                       · intro act wx hS hr
                         simp at hr
                         have g := hS.row.at hlt rfl
                         rw [HX2.out] at g
                         unfold At9K at g
                         obtain ⟨g0, g1, g2, g3, g4, g5, g6, g7, g8⟩ := g
                         go_simp
                         (try go_ints)
                         first
                           | (obtain ⟨v, hr2, hv⟩ := hr; simp only [hr2, Option.getD_some]; refine (FC.out _ _ hv).mono ?_; rintro e w' ⟨rfl, hb⟩; exact Done.mk hb)
                           | exact Done.same
                      )
                  show ∀ w', _ → _
                  intro wz hz
                  simp [Act.put]
                  case hS => exact HS.out
                  intro vn1 hvn1 vn2 hvn2
                  clear hvn1 hvn2
                  have ZZ := hz.bel
                  go_wp2
                  go_ret
                  exact ⟨false, rfl, fun h => (by cases h), ZZ⟩
                · have HTWO : Hid (x.kind = 2 → textOk x.text = true) := fun _ => form_text HFB.out
                  have HSEV : Hid (x.kind = 7 → 0 ≤ x.lo ∧ x.lo ≤ x.hi ∧ x.hi ≤ 255) := fun h => absurd (h.symm.trans K2.out) (by decide)
                  have HNX : Hid (MayI l k) := by
                    have c1' := C1.out; have c2' := C2.out; have c4' := C4.out; have c5' := C5.out
                    unfold Hid MayI
                    rw [HX.out]
                    exact ⟨by omega, by omega, HIFF.out, by omega, by rw [bs_size] at c5'; omega, HTWO.out, HSEV.out⟩
                  have hw1 := wrap_of (by omega : (k : Int) + 1 ≤ 1073741824) (by omega : (0 : Int) ≤ (k : Int) + 1)
                  clear C1 C2 C4 C5 HIFF HTWO HSEV HX
                  go_upto_region 8 with (fail)
                  refine wp_region_stable (S := (MayS w (some ⟨b, o, none⟩) l)) (hSt := fun _ _ h hb => h.later hb) (plan := [[(0, none)], [(3, none)], [(63, some 0), (64, some 1)], [(65, some 2)], [(66, some 3)], [(67, some 4)], [(68, some 5)], [(0, none)], [(3, none)], [(70, some 7), (71, some 8)], [(72, some 9)], [(73, some 10)], [(74, some 11)], [(75, some 12)], [(76, some 13)], [(77, some 14)], [(78, some 15)], [(69, some 6), (79, some 16)], [(80, some 17)], [(0, none)], [(3, none)], [(82, some 19), (83, some 20)], [(84, some 21)], [(85, some 22)], [(86, some 23)], [(87, some 24)], [(0, none)], [(3, none)], [(89, some 26), (90, some 27)], [(91, some 28)], [(92, some 29)], [(93, some 30)], [(94, some 31)], [(0, none)], [(3, none)], [(96, some 33), (97, some 34)], [(98, some 35)], [(99, some 36)], [(0, none)], [(3, none)], [(101, some 38), (102, some 39)], [(103, some 40)], [(104, some 41)], [(100, some 37), (105, some 42)], [(95, some 32), (106, some 43)], [(107, some 44)], [(0, none)], [(3, none)], [(109, some 46), (110, some 47)], [(111, some 48)], [(112, some 49)], [(113, some 50)], [(108, some 45), (114, some 51)], [(88, some 25), (115, some 52)], [(81, some 18), (116, some 53)]]) (by kernel_rfl) (by kernel_rfl) (by kernel_rfl) ?hS ?_
                  rotate_left
                  iterate 13 first
                    | (refine chain_skip (by rfl) (by rfl) ?_)
                    | (apply chain_want (by rfl)
                       · intro act wx hS hr
                         simp at hr
                         have g := hS.row.at hlt rfl
                         rw [HX2.out] at g
                         unfold At9K at g
                         obtain ⟨g0, g1, g2, g3, g4, g5, g6, g7, g8⟩ := g
                         go_simp
                         (try go_ints)
                         first
                           | (obtain ⟨v, hr2, hv⟩ := hr; simp only [hr2, Option.getD_some]; refine (FC.out _ _ hv).mono ?_; rintro e w' ⟨rfl, hb⟩; exact Done.mk hb)
                           | exact Done.same
                      )
                  (refine chain_rel (NewNd { kind := 3, text := x.text }) (NewNd.later _) (by rfl) ?_ ?_
                   · intro act wx hS hr
                     simp at hr
                     have g := hS.row.at hlt rfl
                     rw [HX2.out] at g
                     unfold At9K at g
                     obtain ⟨g0, g1, g2, g3, g4, g5, g6, g7, g8⟩ := g
                     all_goals go_simp
                     exact Done.rel ((Below.refl _ _).alloc (Nat.le_refl _) _) ⟨_, rfl, by rw [ndC_zero]; exact Blk.new _ _ _⟩
                  )
                  (refine chain_rel (IsD [{ kind := 3, text := x.text }]) (IsD.later _) (by rfl) ?_ ?_
                   · intro act wx hS hr
                     simp at hr
                     have g := hS.row.at hlt rfl
                     rw [HX2.out] at g
                     unfold At9K at g
                     obtain ⟨g0, g1, g2, g3, g4, g5, g6, g7, g8⟩ := g
                     obtain ⟨v, hr2, bb, rfl, hk⟩ := hr
                     all_goals go_simp
                     (first | exact Done.rel (Below.refl _ _) (NewNd.isD hk) | (simp only [hr2, Option.getD_some]; exact Done.rel (Below.refl _ _) (NewNd.isD hk)))
                  )
                  iterate 40 first
                    | (refine chain_skip (by rfl) (by rfl) ?_)
                    | (apply chain_want (by rfl)
                       · intro act wx hS hr
                         simp at hr
                         have g := hS.row.at hlt rfl
                         rw [HX2.out] at g
                         unfold At9K at g
                         obtain ⟨g0, g1, g2, g3, g4, g5, g6, g7, g8⟩ := g
                         go_simp
                         (try go_ints)
                         first
                           | (obtain ⟨v, hr2, hv⟩ := hr; simp only [hr2, Option.getD_some]; refine (FC.out _ _ hv).mono ?_; rintro e w' ⟨rfl, hb⟩; exact Done.mk hb)
                           | exact Done.same
                      )
                  show ∀ w', _ → _
                  intro wz hz
                  simp [Act.put]
                  case hS => exact HS.out
                  intro vn1 hvn1 vn2 hvn2
                  clear hvn1 hvn2
                  have SSS := hz
                  go_wp2
                  go_roundw
                  case rel => exact ⟨k + 1, hlt, by go_num, fun j hj => by
                      rcases Nat.lt_or_ge j k with h | h
                      · exact HALL.out j h
                      · obtain rfl : j = k := by omega
                        exact HNX.out, SSS⟩
                  case measure => simp [intOf]; omega
              · have e2 : (x.kind == 2) = false := beq_false_of_ne k2
                by_cases k7 : x.kind = 7
                · have e7 : (x.kind == 7) = true := by rw [k7]; rfl
                  by_cases d1 : x.lo < 0
                  · go_upto_region 8 with (fail)
                    go_quiet (fail)
                    have ZZ := drewB HS.out.bel nq
                    go_wp2
                    go_ret
                    exact ⟨false, rfl, fun h => (by cases h), ZZ⟩
                  by_cases d2 : x.hi < x.lo
                  · go_upto_region 8 with (fail)
                    go_quiet (fail)
                    have ZZ := drewB HS.out.bel nq
                    go_wp2
                    go_ret
                    exact ⟨false, rfl, fun h => (by cases h), ZZ⟩
                  by_cases d3 : 255 < x.hi
                  · go_upto_region 8 with (fail)
                    go_quiet (fail)
                    have ZZ := drewB HS.out.bel nq
                    go_wp2
                    go_ret
                    exact ⟨false, rfl, fun h => (by cases h), ZZ⟩
                  have HTWO : Hid (x.kind = 2 → textOk x.text = true) := fun h => absurd h k2
                  have HSEV : Hid (x.kind = 7 → 0 ≤ x.lo ∧ x.lo ≤ x.hi ∧ x.hi ≤ 255) := fun _ => ⟨by omega, by omega, by omega⟩
                  clear k2 k7
                  have HNX : Hid (MayI l k) := by
                    have c1' := C1.out; have c2' := C2.out; have c4' := C4.out; have c5' := C5.out
                    unfold Hid MayI
                    rw [HX.out]
                    exact ⟨by omega, by omega, HIFF.out, by omega, by rw [bs_size] at c5'; omega, HTWO.out, HSEV.out⟩
                  have hw1 := wrap_of (by omega : (k : Int) + 1 ≤ 1073741824) (by omega : (0 : Int) ≤ (k : Int) + 1)
                  clear C1 C2 C4 C5 HIFF HTWO HSEV HX
                  go_upto_region 8 with (fail)
                  go_quiet (fail)
                  have SSS := HS.out.later (drewB (Below.refl _ _) nq)
                  go_wp2
                  go_roundw
                  case rel => exact ⟨k + 1, hlt, by go_num, fun j hj => by
                      rcases Nat.lt_or_ge j k with h | h
                      · exact HALL.out j h
                      · obtain rfl : j = k := by omega
                        exact HNX.out, SSS⟩
                  case measure => simp [intOf]; omega
                · have e7 : (x.kind == 7) = false := beq_false_of_ne k7
                  have HTWO : Hid (x.kind = 2 → textOk x.text = true) := fun h => absurd h k2
                  have HSEV : Hid (x.kind = 7 → 0 ≤ x.lo ∧ x.lo ≤ x.hi ∧ x.hi ≤ 255) := fun h => absurd h k7
                  clear k2 k7
                  have HNX : Hid (MayI l k) := by
                    have c1' := C1.out; have c2' := C2.out; have c4' := C4.out; have c5' := C5.out
                    unfold Hid MayI
                    rw [HX.out]
                    exact ⟨by omega, by omega, HIFF.out, by omega, by rw [bs_size] at c5'; omega, HTWO.out, HSEV.out⟩
                  have hw1 := wrap_of (by omega : (k : Int) + 1 ≤ 1073741824) (by omega : (0 : Int) ≤ (k : Int) + 1)
                  clear C1 C2 C4 C5 HIFF HTWO HSEV HX
                  go_upto_region 8 with (fail)
                  go_quiet (fail)
                  have SSS := HS.out.later (drewB (Below.refl _ _) nq)
                  go_wp2
                  go_roundw
                  case rel => exact ⟨k + 1, hlt, by go_num, fun j hj => by
                      rcases Nat.lt_or_ge j k with h | h
                      · exact HALL.out j h
                      · obtain rfl : j = k := by omega
                        exact HNX.out, SSS⟩
                  case measure => simp [intOf]; omega
            · have k10 : x.kind = 10 := by have := HB1.out; rw [beq_iff_eq] at this; exact this
              have e2 : (x.kind == 2) = false := by rw [k10]; rfl
              have e7 : (x.kind == 7) = false := by rw [k10]; rfl
              have HTWO : Hid (x.kind = 2 → textOk x.text = true) := fun h => absurd (h.symm.trans k10) (by decide)
              have HSEV : Hid (x.kind = 7 → 0 ≤ x.lo ∧ x.lo ≤ x.hi ∧ x.hi ≤ 255) := fun h => absurd (h.symm.trans k10) (by decide)
              clear k10
              have HNX : Hid (MayI l k) := by
                have c1' := C1.out; have c2' := C2.out; have c4' := C4.out; have c5' := C5.out
                unfold Hid MayI
                rw [HX.out]
                exact ⟨by omega, by omega, HIFF.out, by omega, by rw [bs_size] at c5'; omega, HTWO.out, HSEV.out⟩
              have hw1 := wrap_of (by omega : (k : Int) + 1 ≤ 1073741824) (by omega : (0 : Int) ≤ (k : Int) + 1)
              clear C1 C2 C4 C5 HIFF HTWO HSEV HX
              go_upto_region 8 with (fail)
              go_quiet (fail)
              have SSS := HS.out.later (drewB (Below.refl _ _) nq)
              go_wp2
              go_roundw
              case rel => exact ⟨k + 1, hlt, by go_num, fun j hj => by
                  rcases Nat.lt_or_ge j k with h | h
                  · exact HALL.out j h
                  · obtain rfl : j = k := by omega
                    exact HNX.out, SSS⟩
              case measure => simp [intOf]; omega
          · cases b1
            · cases b2
              · exact absurd rfl hbb
              · clear hbb
                go_wp2
                go_ret
                exact ⟨false, rfl, fun h => (by cases h), HS.out.bel⟩
            · cases b2
              · clear hbb
                go_wp2
                go_ret
                exact ⟨false, rfl, fun h => (by cases h), HS.out.bel⟩
              · exact absurd rfl hbb
        · have hltz : ¬ (k : Int) < (l.length : Int) := by omega
          obtain rfl : k = l.length := by omega
          go_wp2
          go_ret
          exact ⟨true, rfl, fun _ => ⟨HFEW.out.1, HFEW.out.2, HALL.out⟩, HS.out.bel⟩
end Go.Proofs.YtpbadglfegcdjaaGreatDoor
