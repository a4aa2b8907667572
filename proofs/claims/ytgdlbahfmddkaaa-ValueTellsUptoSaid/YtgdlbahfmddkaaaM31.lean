/- What a value writes: the document's walk, a repeat. -/
import Derived.Test.YtgdlbahfmddkaaaM30
import Derived.Test.YtgdlbahfmddkaaaM29
import Derived.Test.YtgdlbahfmddkaaaM24
namespace Go.Proofs.Ytgdlbahfmddkaaa
open Go Go.RowKit
set_option linter.unusedVariables false
set_option linter.unusedSimpArgs false
set_option maxRecDepth 100000

set_option maxHeartbeats 16000000 in
theorem at_rep (l : List Nd) (A : Option Addr) (c : Nat) (i : Nat) (hi : i < l.length) (hlen : l.length ≤ 536870912) (na_ : Nat) (nb_ : Int) (ncls : BitVec 256) (ntext : List UInt8) (nlo nhi : Int) (hn : atN l i = ⟨7, (na_ : Int), nb_, nlo, nhi, ncls, ntext⟩)
    (v : Vl) (hv : v.kids.len < 4611686018427387904) (B : Option Addr) (cv : Nat) (hcv : v.kids.len ≤ cv) (w : World) (hrow : NRow w A l) (hkr : VRow w B 0 v.kids) (hb2 : ∀ (k : Nat) (ws : List Wd), k ≤ v.kids.len → ws.length = k → (∀ j, j < k → wrV l na_ (v.kids.at j) = some (ws.getD j [])) → ws.flatten.length ≤ 400000000) (hkc : ∀ j, j < v.kids.len → KidC A l c na_ (v.kids.at j)) (hlo : 0 ≤ nlo ∧ nlo ≤ 255) (hhi : 0 ≤ nhi ∧ nhi ≤ 255) :
    Calls Try.prog 26 #[.agg #[.slice A l.length c], .int .i64 (i : Int), .agg (vlC v B cv)] w (AtP w (wrV l i v)) := by
  have HW := Lib.hid ((trivial : True))
  have HS2 := Lib.hid (AtS.new w A l c (l.getD i nd0) v B cv hrow hkr)
  obtain ⟨ba, oa, rfl, hbl, -⟩ := hrow i hi
  have g : At10 w ba (oa + i * 10) (l.getD i nd0) := hrow.at hi rfl
  have hiz : (i : Int) < (l.length : Int) := by omega
  have hn2 : l.getD i nd0 = ⟨7, (na_ : Int), nb_, nlo, nhi, ncls, ntext⟩ := hn
  rw [hn2] at g HS2
  have HP : Hid (∀ u w', IsV w' u v → Calls Try.prog 37 #[u, .int .i64 7, .int .u8 (((0 : UInt8).toNat : Nat) : Int), .string (bs []), .int .i64 0, .int .i64 ((v.kids.len : Nat) : Int)] w' (Ans w' (.bool (decide (plainP v 7 (0 : UInt8) [] 0 v.kids.len))))) := fun u w' h => rplain_any v 7 (0 : UInt8) [] 0 v.kids.len hv u w' h
  have HBAD : Hid (∀ j, j < v.kids.len → (wrV l na_ (v.kids.at j) = none ∨ wrV l na_ (v.kids.at j) = some []) → wrV l i v = none) := fun j hj h => wr_k67_bad (v := v) hn (.inr rfl) hj (by simp only [Int.toNat_natCast]; exact h)
  have HNO : Hid (¬ (plainP v 7 0 [] 0 v.kids.len ∧ ((7 : Int) = 7 → nlo ≤ (v.kids.len : Int) ∧ (v.kids.len : Int) ≤ nhi)) → wrV l i v = none) := fun h => wr_k67_no (v := v) hn (.inr rfl) h
  have HYES : Hid (∀ ws : List Wd, plainP v 7 0 [] 0 v.kids.len → ((7 : Int) = 7 → nlo ≤ (v.kids.len : Int) ∧ (v.kids.len : Int) ≤ nhi) → ws.length = v.kids.len → (∀ j, j < v.kids.len → wrV l na_ (v.kids.at j) = some (ws.getD j [])) → (∀ x ∈ ws, x ≠ []) → wrV l i v = some ws.flatten) := fun ws h h7 hl hw hne => wr_k67 (v := v) hn (.inr rfl) h h7 hl (by simp only [Int.toNat_natCast]; exact hw) hne
  have HKC := Lib.hid hkc
  have HB2 := Lib.hid hb2
  have HR0 := Lib.hid hrow
  have HK0 := Lib.hid hkr
  clear hkc hb2
  generalize wrV l i v = rr at *
  clear hrow hkr hn hn2
  unfold At10 at g
  simp only at g
  obtain ⟨g0, g1, g2, g3, g4, g5, g6, g7, g8, g9⟩ := g
  have hl0 : ∀ o, ((w.alloc (.cells #[.slice (some ⟨ba, oa, none⟩) l.length c] 24)).alloc (.cells (vlC v B cv) 27)).cell? ⟨ba, o, none⟩ = w.cell? ⟨ba, o, none⟩ := fun o => (((Below.refl w.heap.size w).alloc (Nat.le_refl _) (.cells #[.slice (some ⟨ba, oa, none⟩) l.length c] 24)).alloc (by simp) (.cells (vlC v B cv) 27)).cell (p := ⟨ba, o, none⟩) hbl
  have HBX : Hid (Blk ((w.alloc (.cells #[.slice (some ⟨ba, oa, none⟩) l.length c] 24)).alloc (.cells (vlC v B cv) 27)) w.heap.size #[.slice (some ⟨ba, oa, none⟩) l.length c] 24) := (Blk.new _ _ _).alloc _
  rw [← hl0] at g0 g1 g2 g3 g4 g5 g6 g7 g8 g9
  clear hl0
  obtain ⟨vk, vb, vt, vp, ks⟩ := v
  rw [vlC_five] at *
  unfold ndC at HS2
  simp only at *
  go_enter Try.func26, Try.ntmps26
  go_upto_region 1 with (fail)
  have hsz1 : ((w.alloc (.cells #[.slice (some ⟨ba, oa, none⟩) l.length c] 24)).alloc (.cells #[.int .i64 vk, .int .u8 ((vb.toNat : Nat) : Int), .string (bs vt), .int .i64 vp, .slice B ks.len cv] 27)).heap.size = w.heap.size + 2 := by simp
  generalize (w.alloc (.cells #[.slice (some ⟨ba, oa, none⟩) l.length c] 24)).alloc (.cells #[.int .i64 vk, .int .u8 ((vb.toNat : Nat) : Int), .string (bs vt), .int .i64 vp, .slice B ks.len cv] 27) = w1 at *
  have e0 := HBX.out.cell 0
  simp at e0
  go_upto_region 2 with (fail)
  rw [hsz1] at *
  clear g0 g1 g2 g3 g4 g5 g6 g7 g8 g9 e0 HBX
  generalize w1.alloc (.cells #[.int .i64 7, .int .i64 (na_ : Int), .int .i64 nb_, .int .i64 nlo, .int .i64 nhi, .int .u64 (wd ncls 0), .int .u64 (wd ncls 1), .int .u64 (wd ncls 2), .int .u64 (wd ncls 3), .string (bs ntext)] 44) = w2 at *
  clear hsz1
  have d0 := HS2.out.box.cell 0
  simp at d0
  obtain ⟨b0, b1, b2, b3, b4⟩ := vl_cells HS2.out.bv
  obtain ⟨f0, f1, f2, f3, f4, f5, f6, f7, f8, f9⟩ := ten_cells HS2.out.who
  have HPV := Lib.hid (fun w' (h : AtS w (some ⟨ba, oa, none⟩) l c ⟨7, (na_ : Int), nb_, nlo, nhi, ncls, ntext⟩ ⟨vk, vb, vt, vp, ks⟩ B cv w') => HP.out (.agg (vlC ⟨vk, vb, vt, vp, ks⟩ B cv) ) w' ⟨B, cv, hcv, rfl, h.kids⟩)
  unfold vlC at HPV
  simp only [bs_nil] at HPV
  obtain ⟨hlo1, hlo2⟩ := hlo
  obtain ⟨hhi1, hhi2⟩ := hhi
  by_cases hp : plainP ⟨vk, vb, vt, vp, ks⟩ 7 0 [] 0 ks.len
  · rw [decide_eq_true hp] at HPV
    have HPP := Lib.hid hp
    clear hp HP
    by_cases hl1 : nlo ≤ (ks.len : Int)
    · have l1 : ¬ (ks.len : Int) < nlo := by omega
      have l1d : decide ((ks.len : Int) < nlo) = false := decide_eq_false l1
      by_cases hl2 : (ks.len : Int) ≤ nhi
      · have l2 : ¬ (ks.len : Int) > nhi := by omega
        have l2d : decide ((ks.len : Int) > nhi) = false := decide_eq_false l2
        have HP7 : Hid ((7 : Int) = 7 → nlo ≤ (ks.len : Int) ∧ (ks.len : Int) ≤ nhi) := fun _ => ⟨hl1, hl2⟩
        clear hl1 hl2
        go_wp2_with fail
        refine (HPV.out _ HS2.out).mono ?_; rintro e w3 ⟨rfl, hb⟩
        have HS3 := Lib.hid (HS2.out.later hb)
        clear hb HPV HS2 d0 b0 b1 b2 b3 b4 f0 f1 f2 f3 f4 f5 f6 f7 f8 f9
        have d0 := HS3.out.box.cell 0
        simp at d0
        obtain ⟨b0, b1, b2, b3, b4⟩ := vl_cells HS3.out.bv
        obtain ⟨f0, f1, f2, f3, f4, f5, f6, f7, f8, f9⟩ := ten_cells HS3.out.who
        have hal := (Below.refl w3.heap.size w3).alloc (Nat.le_refl _) (.cells #[] 5)
        have hsz3 : w.heap.size + 3 ≤ w3.heap.size := by have := HS3.out.who.lt; omega
        have HS4 := Lib.hid (HS3.out.later hal)
        have HL4 : Hid (w.heap.size + 3 ≤ (w3.alloc (.cells #[] 5)).heap.size) := Nat.le_trans hsz3 hal.size
        have HO4 : Hid (Own8 (w3.alloc (.cells #[] 5)) (w.heap.size + 3) (.slice (some ⟨w3.heap.size, 0, none⟩) 0 0) (nats [])) := own8_lower (own_new (w := w3) (W := []) (cs := #[]) rfl (by decide)) hsz3
        clear hal hsz3
        go_upto_region 33 with (fail)
        clear d0 b0 b1 b2 b3 b4 f0 f1 f2 f3 f4 f5 f6 f7 f8 f9 HS3
        generalize w3.alloc (.cells #[] 5) = w4 at *
        generalize w3.heap.size = bo at *
        go_wp2
        go_loopw [14, 15] (AtL w (some ⟨ba, oa, none⟩) l c ⟨7, (na_ : Int), nb_, nlo, nhi, ncls, ntext⟩ ⟨vk, vb, vt, vp, ks⟩ B cv na_) (fun _ x _ => ks.len - (intOf x).toNat)
        case atStart => exact ⟨0, [], Nat.zero_le _, rfl, rfl, fun j hj => absurd hj (Nat.not_lt_zero j), fun y hy => (by cases hy), HS4.out, HO4.out, HL4.out⟩
        case round =>
          obtain ⟨k, ws, hk, rfl, hwl, hws, hne, hs, ho, hlow⟩ := hrel
          simp only at hk hws
          have HS := Lib.hid hs
          have HO := Lib.hid ho
          have HLOW := Lib.hid hlow
          have HWS := Lib.hid hws
          have HNE := Lib.hid hne
          have HWL := Lib.hid hwl
          clear hs ho hlow hws hne hwl HS4 HO4 HL4
          by_cases hlt : k < ks.len
          · have hltz : (k : Int) < (ks.len : Int) := by omega
            obtain ⟨gx, ox, X, cx, rfl, hx⟩ := VRow.el HS.out.kids (j := k) (by simp only; omega)
            have HE0 : Hid (AtO w (some ⟨ba, oa, none⟩) l c ⟨7, (na_ : Int), nb_, nlo, nhi, ncls, ntext⟩ ⟨vk, vb, vt, vp, ks⟩ (some ⟨gx, ox, none⟩) cv gx (ox + k * 5) (ks.at k) X cx u14 ws.flatten wr) := ⟨HS.out, hx, HO.out, HLOW.out⟩
            have HC : Hid (∀ w', NRow w' (some ⟨ba, oa, none⟩) l → ElS gx (ox + k * 5) (ks.at k) X cx w' → Calls Try.prog 26 #[.agg #[.slice (some ⟨ba, oa, none⟩) l.length c], .int .i64 (na_ : Int), .agg (vlC (ks.at k) X cx)] w' (AtP w' (wrV l na_ (ks.at k)))) := fun w' h1 h2 => HKC.out k hlt X cx w' h1 h2.cap h2.row
            have HBK := Lib.hid (HBAD.out k hlt)
            have HNX : Hid (∀ y, wrV l na_ (ks.at k) = some y → ∀ j, j < k + 1 → wrV l na_ (ks.at j) = some ((ws ++ [y]).getD j [])) := fun y hy j hj => by
              have hwl := HWL.out
              rcases Nat.lt_or_ge j k with h | h
              · rw [HWS.out j h, List.getD_eq_getElem?_getD, List.getD_eq_getElem?_getD, List.getElem?_append_left (by omega)]
              · obtain rfl : j = k := by omega
                rw [hy, List.getD_eq_getElem?_getD, List.getElem?_append_right (by omega), hwl, Nat.sub_self]; rfl
            have HBD := Lib.hid (HB2.out (k + 1) · (by omega))
            clear hx HS HO HLOW
            generalize wrV l na_ (ks.at k) = r at HC HBK HNX
            generalize ks.at k = x0 at HE0 HC
            obtain ⟨xk, xb, xt, xp, xs⟩ := x0
            rw [vlC_five] at HC
            simp only at HC
            have b0 := HE0.out.s.bv.cell 4
            go_upto_region 36 with (fail)
            clear b0
            refine wp_region_stable (S := (AtO w (some ⟨ba, oa, none⟩) l c ⟨7, (na_ : Int), nb_, nlo, nhi, ncls, ntext⟩ ⟨vk, vb, vt, vp, ks⟩ (some ⟨gx, ox, none⟩) cv gx (ox + k * 5) ⟨xk, xb, xt, xp, xs⟩ X cx u14 ws.flatten)) (hSt := fun _ _ h hb => h.later hb) (plan := [[(3, none)], [(8, none)], [(160, some 1)], [(5, none)], [(162, some 3)], [(15, none)], [(163, some 4), (164, some 5)], [(165, some 6)], [(159, some 0), (161, some 2), (166, some 7)], [(167, some 8)], [(158, some 9)], [(158, some 9)], [(168, some 10)], [(169, some 11)]]) (by kernel_rfl) (by kernel_rfl) (by kernel_rfl) ?hS ?_
            rotate_left
            iterate 8 first
              | (refine chain_skip (by rfl) (by rfl) ?_)
              | (apply chain_want (by rfl)
                 · intro act wx hS hr
                   simp at hr
                   obtain ⟨b0, b1, b2, b3, b4⟩ := vl_cells hS.s.bv
                   have d0 := hS.s.box.cell 0
                   simp at d0
                   obtain ⟨f0, f1, f2, f3, f4, f5, f6, f7, f8, f9⟩ := ten_cells hS.s.who
                   obtain ⟨p0, p1, p2, p3, p4⟩ := hS.e.five
                   go_simp
                   (try go_ints)
                   first
                     | (obtain ⟨x, hr1, sv, rfl, hx⟩ := hr; simp only [hr1, Option.getD_some]; go_simp; exact Done.same)
                     | exact Done.same
                )
            (refine chain_rel (TupW r) (TupW.later r) (by rfl) ?_ ?_
             · intro act wx hS hr
               simp at hr
               obtain ⟨b0, b1, b2, b3, b4⟩ := vl_cells hS.s.bv
               have d0 := hS.s.box.cell 0
               simp at d0
               obtain ⟨f0, f1, f2, f3, f4, f5, f6, f7, f8, f9⟩ := ten_cells hS.s.who
               obtain ⟨p0, p1, p2, p3, p4⟩ := hS.e.five
               all_goals go_simp
               ((with_reducible refine (HC.out _ hS.s.row hS.e).mono ?_); rintro e w' ⟨x, rfl, hx, hb⟩; exact Done.rel hb hx)
            )
            (refine chain_rel (TupW r) (TupW.later r) (by rfl) ?_ ?_
             · intro act wx hS hr
               simp at hr
               obtain ⟨b0, b1, b2, b3, b4⟩ := vl_cells hS.s.bv
               have d0 := hS.s.box.cell 0
               simp at d0
               obtain ⟨f0, f1, f2, f3, f4, f5, f6, f7, f8, f9⟩ := ten_cells hS.s.who
               obtain ⟨p0, p1, p2, p3, p4⟩ := hS.e.five
               obtain ⟨x, hr1, hx⟩ := hr
               all_goals go_simp
               exact Done.rel (Below.refl _ _) hx
            )
            (refine chain_rel (IsWo r) (IsWo.later r) (by rfl) ?_ ?_
             · intro act wx hS hr
               simp at hr
               obtain ⟨b0, b1, b2, b3, b4⟩ := vl_cells hS.s.bv
               have d0 := hS.s.box.cell 0
               simp at d0
               obtain ⟨f0, f1, f2, f3, f4, f5, f6, f7, f8, f9⟩ := ten_cells hS.s.who
               obtain ⟨p0, p1, p2, p3, p4⟩ := hS.e.five
               obtain ⟨x, hr1, sv, rfl, hx⟩ := hr
               all_goals go_simp
               exact Done.rel (Below.refl _ _) hx
            )
            iterate 1 first
              | (refine chain_skip (by rfl) (by rfl) ?_)
              | (apply chain_want (by rfl)
                 · intro act wx hS hr
                   simp at hr
                   obtain ⟨b0, b1, b2, b3, b4⟩ := vl_cells hS.s.bv
                   have d0 := hS.s.box.cell 0
                   simp at d0
                   obtain ⟨f0, f1, f2, f3, f4, f5, f6, f7, f8, f9⟩ := ten_cells hS.s.who
                   obtain ⟨p0, p1, p2, p3, p4⟩ := hS.e.five
                   go_simp
                   (try go_ints)
                   first
                     | (obtain ⟨x, hr1, sv, rfl, hx⟩ := hr; simp only [hr1, Option.getD_some]; go_simp; exact Done.same)
                     | exact Done.same
                )
            (refine chain_rel (IsWo r) (IsWo.later r) (by rfl) ?_ ?_
             · intro act wx hS hr
               simp at hr
               obtain ⟨b0, b1, b2, b3, b4⟩ := vl_cells hS.s.bv
               have d0 := hS.s.box.cell 0
               simp at d0
               obtain ⟨f0, f1, f2, f3, f4, f5, f6, f7, f8, f9⟩ := ten_cells hS.s.who
               obtain ⟨p0, p1, p2, p3, p4⟩ := hS.e.five
               obtain ⟨x, hr1, hx⟩ := hr
               all_goals go_simp
               exact Done.rel (Below.refl _ _) hx
            )
            iterate 1 first
              | (refine chain_skip (by rfl) (by rfl) ?_)
              | (apply chain_want (by rfl)
                 · intro act wx hS hr
                   simp at hr
                   obtain ⟨b0, b1, b2, b3, b4⟩ := vl_cells hS.s.bv
                   have d0 := hS.s.box.cell 0
                   simp at d0
                   obtain ⟨f0, f1, f2, f3, f4, f5, f6, f7, f8, f9⟩ := ten_cells hS.s.who
                   obtain ⟨p0, p1, p2, p3, p4⟩ := hS.e.five
                   go_simp
                   (try go_ints)
                   first
                     | (obtain ⟨x, hr1, sv, rfl, hx⟩ := hr; simp only [hr1, Option.getD_some]; go_simp; exact Done.same)
                     | exact Done.same
                )
            show ∀ w', _ → _
            intro w5 hz5
            simp [Act.put]
            case hS => exact HE0.out
            intro x1 _ x2 _ x3 _ x4 hx4
            have HS5 := Lib.hid hz5.s
            have HO5 := Lib.hid hz5.own
            have HL5 := Lib.hid hz5.low
            have HX5 := Lib.hid hx4
            clear hz5 hx4 HE0 HC
            cases r with
            | none =>
              have HE : Hid (rr = none) := HBK.out (.inl rfl)
              go_wp2
              go_ret2
              exact ⟨_, rfl, ⟨_, by rw [HE.out]; rfl, by rw [HE.out]; exact rfl⟩, HS5.out.bel⟩
            | some y =>
              have HX : Hid (IsW y x4 w5) := HX5.out
              obtain ⟨AW, capW, rfl, -⟩ := HX.out.len
              clear HX5
              by_cases hy : y = []
              · have HE : Hid (rr = none) := HBK.out (.inr (by rw [hy]))
                have hyl : ((y.length : Nat) : Int) == 0 := by rw [hy]; rfl
                have hyl2 : (((y.length : Nat) : Int) == 0) = true := hyl
                have hyn : y.length = 0 := by rw [hy]; rfl
                have HYN := Lib.hid hyn
                clear hy hyl hyn
                go_wp2
                go_ret2
                exact ⟨_, rfl, ⟨_, by rw [HE.out]; rfl, by rw [HE.out]; exact rfl⟩, HS5.out.bel⟩
              · have hyl2 : (((y.length : Nat) : Int) == 0) = false := by rw [beq_eq_false_iff_ne]; have := List.length_pos_iff.2 hy; omega
                have HN2 := Lib.hid (HNX.out y rfl)
                have HNE2 : Hid (∀ z ∈ ws ++ [y], z ≠ []) := fun z hz => by
                  rcases List.mem_append.1 hz with h | h
                  · exact HNE.out z h
                  · rw [List.mem_singleton.1 h]; exact hy
                have HLN : Hid ((ws ++ [y]).length = k + 1) := by unfold Hid; rw [List.length_append, HWL.out]; rfl
                have hbd := HBD.out (ws ++ [y]) HLN.out HN2.out
                have hfl : (ws ++ [y]).flatten = ws.flatten ++ y := by simp
                rw [hfl, List.length_append] at hbd
                have HFL := Lib.hid hfl
                clear hy hfl HBK HNX
                go_wp2_with (at_builtin; refine wpList_append_w rfl _ _ rfl (w.heap.size + 3) u14 ws.flatten rfl HO5.out y (.slice AW y.length capW) rfl HX.out (by omega) HL5.out ?_; intro v6 w6 h1 h2; rw [← HFL.out] at h1; have HO6 := Lib.hid h1; have HB6 := Lib.hid ((Below.refl (w.heap.size + 3) w5).grown h2 HL5.out (fun k hk => (World.ownsRow.lt HO5.out k hk).1)); clear h1 h2)
                have HS6 := Lib.hid (HS5.out.grown HR0.out HK0.out HB6.out)
                go_roundw
                case rel => exact ⟨k + 1, ws ++ [y], by simp only; omega, by go_num, HLN.out, HN2.out, HNE2.out, HS6.out, HO6.out, Nat.le_trans HL5.out HB6.out.size⟩
                case measure => simp [intOf]; omega
          · obtain rfl : k = ks.len := by omega
            have hlast : ¬ ((ks.len : Nat) : Int) < (ks.len : Int) := by omega
            have HE : Hid (rr = some ws.flatten) := HYES.out ws HPP.out HP7.out HWL.out HWS.out HNE.out
            have hbd := HB2.out ks.len ws (Nat.le_refl _) HWL.out HWS.out
            have HI := Lib.hid (own_isW HO.out (by omega))
            clear hbd HWS HNE HWL HBAD HNO HYES HB2 HKC
            go_wp2
            go_ret2
            exact ⟨_, rfl, ⟨u14, by rw [HE.out]; rfl, by rw [HE.out]; exact HI.out⟩, HS.out.bel⟩
      · have l2 : (ks.len : Int) > nhi := by omega
        have l2d : decide ((ks.len : Int) > nhi) = true := decide_eq_true l2
        have HE : Hid (rr = none) := HNO.out (fun h => hl2 (h.2 (by trivial)).2)
        clear HBAD HNO HYES HB2 HKC
        clear hl1 hl2
        go_wp2_with fail
        refine (HPV.out _ HS2.out).mono ?_; rintro e w3 ⟨rfl, hb⟩
        have HS3 := Lib.hid (HS2.out.later hb)
        clear hb HPV HS2 d0 b0 b1 b2 b3 b4 f0 f1 f2 f3 f4 f5 f6 f7 f8 f9
        have d0 := HS3.out.box.cell 0
        simp at d0
        obtain ⟨b0, b1, b2, b3, b4⟩ := vl_cells HS3.out.bv
        obtain ⟨f0, f1, f2, f3, f4, f5, f6, f7, f8, f9⟩ := ten_cells HS3.out.who
        go_wp2
        go_ret2
        exact ⟨_, rfl, ⟨_, by rw [HE.out]; rfl, by rw [HE.out]; exact rfl⟩, HS3.out.bel⟩
    · have l1 : (ks.len : Int) < nlo := by omega
      have l1d : decide ((ks.len : Int) < nlo) = true := decide_eq_true l1
      have HE : Hid (rr = none) := HNO.out (fun h => hl1 (h.2 (by trivial)).1)
      clear HBAD HNO HYES HB2 HKC
      clear hl1
      go_wp2_with fail
      refine (HPV.out _ HS2.out).mono ?_; rintro e w3 ⟨rfl, hb⟩
      have HS3 := Lib.hid (HS2.out.later hb)
      clear hb HPV HS2 d0 b0 b1 b2 b3 b4 f0 f1 f2 f3 f4 f5 f6 f7 f8 f9
      have d0 := HS3.out.box.cell 0
      simp at d0
      obtain ⟨b0, b1, b2, b3, b4⟩ := vl_cells HS3.out.bv
      obtain ⟨f0, f1, f2, f3, f4, f5, f6, f7, f8, f9⟩ := ten_cells HS3.out.who
      go_wp2
      go_ret2
      exact ⟨_, rfl, ⟨_, by rw [HE.out]; rfl, by rw [HE.out]; exact rfl⟩, HS3.out.bel⟩
  · rw [decide_eq_false hp] at HPV
    have HE : Hid (rr = none) := HNO.out (fun h => hp h.1)
    clear HBAD HNO HYES HB2 HKC
    clear hp HP
    go_wp2_with fail
    refine (HPV.out _ HS2.out).mono ?_; rintro e w3 ⟨rfl, hb⟩
    have HS3 := Lib.hid (HS2.out.later hb)
    clear hb HPV HS2 d0 b0 b1 b2 b3 b4 f0 f1 f2 f3 f4 f5 f6 f7 f8 f9
    go_wp2
    go_ret2
    exact ⟨_, rfl, ⟨_, by rw [HE.out]; rfl, by rw [HE.out]; exact rfl⟩, HS3.out.bel⟩
end Go.Proofs.Ytgdlbahfmddkaaa
/- What a value writes: the document's walk, all nodes; Write, Few. -/
namespace Go.Proofs.Ytgdlbahfmddkaaa
open Go Go.RowKit
set_option linter.unusedVariables false
set_option linter.unusedSimpArgs false
set_option maxRecDepth 100000

theorem sum_words {l : List Nd} {m q : Nat} (hm : ∀ n ∈ l, n.text.length ≤ m) (s : Vs) : ∀ (k : Nat) (ws : List Wd), k ≤ s.len → ws.length = k → (∀ j, j < k → wrV l q (s.at j) = some (ws.getD j [])) → ws.flatten.length ≤ (m + 2) * cntTo s k
  | 0, ws, _, hl, _ => by rw [List.length_eq_zero_iff.1 hl]; simp
  | k + 1, ws, hk, hl, h => by
    have e : ws = ws.take k ++ [ws.getD k []] := by
      conv => lhs; rw [← List.take_append_drop k ws]
      congr 1
      rw [List.drop_eq_getElem_cons (by omega), List.getD_eq_getElem?_getD, List.getElem?_eq_getElem (by omega), List.drop_of_length_le (by omega)]; rfl
    have h1 := sum_words hm s k (ws.take k) (by omega) (by rw [List.length_take]; omega) (fun j hj => by
      rw [h j (by omega), List.getD_eq_getElem?_getD, List.getD_eq_getElem?_getD, List.getElem?_take, if_pos hj])
    have h2 := wrV_len hm (s.at k) q _ (h k (by omega))
    rw [e, List.flatten_append, List.length_append, cntTo_succ (by omega), Nat.mul_add]
    simp only [List.flatten_cons, List.flatten_nil, List.append_nil]
    omega
/-- All kids' calls. -/
theorem at_any (l : List Nd) (A : Option Addr) (c : Nat) (hF : Form l) (hc : l.length ≤ c) (hlen : l.length ≤ 536870912) (htx : ∀ n ∈ l, n.text.length ≤ 2000) : ∀ (v : Vl), cntV v ≤ 100000 → ∀ (i : Nat), i < l.length → ∀ (B : Option Addr) (cv : Nat) (w : World), NRow w A l → v.kids.len ≤ cv → VRow w B 0 v.kids →
    Calls Try.prog 26 #[.agg #[.slice A l.length c], .int .i64 (i : Int), .agg (vlC v B cv)] w (AtP w (wrV l i v)) := fun v => by
  induction v using Vl.kids_ind with
  | h v ih =>
    intro hcnt i hi B cv w hrow hcv hkr
    have hkc : ∀ j q, j < v.kids.len → q < l.length → KidC A l c q (v.kids.at j) := fun j q hj hq Y cy w' h1 h2 h3 =>
      ih _ (List.mem_of_getElem? (Vs.at_get hj)) (by have := cntV_kid hj; omega) q hq Y cy w' h1 h2 h3
    have hlenv : v.kids.len < 4611686018427387904 := by have := cntVs_len v.kids; unfold cntV at hcnt; omega
    have hb1 : ∀ j q W, j < v.kids.len → wrV l q (v.kids.at j) = some W → W.length ≤ 400000000 := fun j q W hj h => by
      have h1 := wrV_len htx _ _ _ h
      have h2 := cntV_kid hj
      have : (2000 + 2) * cntV (v.kids.at j) ≤ (2000 + 2) * 100000 := Nat.mul_le_mul_left _ (by omega)
      omega
    have ho := hF.2.1 i hi
    have hk9 := ho.kind9
    obtain ⟨n, hn⟩ : ∃ n, atN l i = n := ⟨_, rfl⟩
    have hnm : n ∈ l := by
      rw [← hn]; unfold atN; rw [List.getD_eq_getElem?_getD, List.getElem?_eq_getElem hi]; exact List.getElem_mem _
    have htn := htx n hnm
    rw [hn] at ho hk9
    have hcs := ho.cs hn
    obtain ⟨kk, na, nb, nlo, nhi, ncls, ntext⟩ := n
    cases hcs with
    | leaf hk hf =>
      unfold leafK at hk
      simp only at hk
      rcases hk with rfl | rfl | rfl
      · exact at_empty l A c i hi hlen na nb ncls ntext nlo nhi hn v hlenv B cv hcv w hrow hkr
      · exact at_bytes l A c i hi hlen na nb ncls ntext nlo nhi hn v hlenv B cv hcv w hrow hkr
      · exact at_text l A c i hi hlen na nb ncls ntext nlo nhi hn v hlenv B cv hcv w hrow hkr (by simp only at htn; omega)
    | one hk hi0 ha hb h7 hr hcl hf =>
      simp only at hk ha hb h7 hr
      obtain ⟨p, rfl⟩ : ∃ p : Nat, na = (p : Int) := ⟨na.toNat, by omega⟩
      have hp : p < i := by omega
      have hb2 : ∀ (k : Nat) (ws : List Wd), k ≤ v.kids.len → ws.length = k → (∀ j, j < k → wrV l p (v.kids.at j) = some (ws.getD j [])) → ws.flatten.length ≤ 400000000 := fun k ws h1 h2 h3 => by
        have h4 := sum_words htx v.kids k ws h1 h2 h3
        have h5 := cntTo_le v.kids k
        have : (2000 + 2) * cntTo v.kids k ≤ (2000 + 2) * 100000 := Nat.mul_le_mul_left _ (by unfold cntV at hcnt; omega)
        omega
      have hkk : kk = 6 ∨ kk = 7 ∨ kk = 8 ∨ kk = 9 := by omega
      unfold okN backN at ho
      simp only at ho
      rcases hkk with rfl | rfl | rfl | rfl
      · exact at_star l A c i hi hlen p nb ncls ntext nlo nhi hn v hlenv B cv hcv w hrow hkr hb2 (fun j hj => hkc j p hj (by omega)) (by obtain ⟨h, -⟩ := ho; simp at h; omega) (by obtain ⟨h, -⟩ := ho; simp at h; omega)
      · exact at_rep l A c i hi hlen p nb ncls ntext nlo nhi hn v hlenv B cv hcv w hrow hkr hb2 (fun j hj => hkc j p hj (by omega)) (by have := hr rfl; omega) (by have := hr rfl; omega)
      · exact at_frame l A c i hi hlen p nb ncls ntext nlo nhi hn v hlenv B cv hcv w hrow hkr hb1 (fun j q hj hq => hkc j q hj (by omega)) hp
      · exact at_wide l A c i hi hlen p nb ncls ntext nlo nhi hn v hlenv B cv hcv w hrow hkr hb1 (fun j q hj hq => hkc j q hj (by omega)) hp
    | two hk hi0 hb ha hf0 hl hcl hf =>
      simp only at hk ha hb
      have hle := firstP_le l (i - 1)
      obtain ⟨p, rfl⟩ : ∃ p : Nat, na = (p : Int) := ⟨na.toNat, by omega⟩
      obtain ⟨q, rfl⟩ : ∃ q : Nat, nb = (q : Int) := ⟨nb.toNat, by omega⟩
      rcases hk with rfl | rfl
      · exact at_four l A c i hi hlen q p ncls ntext nlo nhi hn v hlenv B cv hcv w hrow hkr hb1 (fun j q hj hq => hkc j q hj (by omega)) (by omega) (by omega)
      · exact at_five l A c i hi hlen p q ncls ntext nlo nhi hn v hlenv B cv hcv w hrow hkr (fun j q hj hq => hkc j q hj (by omega)) (by omega) (by omega)
/-- A description and a value in their boxes. -/
structure WvS (w0 : World) (A : Option Addr) (l : List Nd) (c : Nat) (v : Vl) (B : Option Addr) (cv : Nat) (w : World) : Prop where
  bel : Below w0.heap.size w0 w
  row : NRow w A l
  box : Blk w w0.heap.size #[.slice A l.length c] 24
  bv : Blk w (w0.heap.size + 1) (vlC v B cv) 27
  kids : VRow w B 0 v.kids
theorem WvS.later {w0 w w' : World} {A : Option Addr} {l : List Nd} {c : Nat} {v : Vl} {B : Option Addr} {cv : Nat} (h : WvS w0 A l c v B cv w) (hb : Below w.heap.size w w') : WvS w0 A l c v B cv w' := ⟨h.bel.trans (hb.mono h.bel.size), h.row.later hb, h.box.later hb, h.bv.later hb, h.kids.later hb⟩
theorem WvS.new (w : World) (A : Option Addr) (l : List Nd) (c : Nat) (v : Vl) (B : Option Addr) (cv : Nat) (h : NRow w A l) (k : VRow w B 0 v.kids) : WvS w A l c v B cv ((w.alloc (.cells #[.slice A l.length c] 24)).alloc (.cells (vlC v B cv) 27)) := by
  have HB := ((Below.refl w.heap.size w).alloc (Nat.le_refl _) (.cells #[.slice A l.length c] 24)).alloc (by simp) (.cells (vlC v B cv) 27)
  exact ⟨HB, h.later HB, (Blk.new w _ _).alloc _, Blk.new' (by simp) _ _, k.later HB⟩
set_option maxHeartbeats 16000000 in
theorem rwrite_any (l : List Nd) (A : Option Addr) (c : Nat) (hF : Form l) (hc : l.length ≤ c) (hlen : l.length ≤ 536870912) (htx : ∀ n ∈ l, n.text.length ≤ 2000) (v : Vl) (hv : cntV v ≤ 100000) (u : Value) (w : World) (hrow : NRow w A l) (hu : IsV w u v) :
    Calls Try.prog 12 #[.agg #[.slice A l.length c], u] w (AtP w (wrD l v)) := by
  obtain ⟨B, cv, hcv, rfl, hkr⟩ := hu
  have HS0 := Lib.hid (WvS.new w A l c v B cv hrow hkr)
  have hpos := hF.1
  have CA : Hid (∀ w', WvS w A l c v B cv w' → Calls Try.prog 26 #[.agg #[.slice A l.length c], .int .i64 ((l.length : Int) - 1), .agg (vlC v B cv)] w' (AtP w' (wrD l v))) := fun w' h => by
    have := at_any l A c hF hc hlen htx v hv (l.length - 1) (by omega) B cv w' h.row hcv h.kids
    rwa [show ((l.length - 1 : Nat) : Int) = (l.length : Int) - 1 by omega] at this
  generalize wrD l v = r at *
  have hmin : -9223372036854775808 ≤ (l.length : Int) - 1 := by omega
  clear hrow hkr hF htx
  obtain ⟨vk, vb, vt, vp, ks⟩ := v
  rw [vlC_five] at *
  simp only at *
  go_enter Try.func12, Try.ntmps12
  go_upto_region 1 with (fail)
  generalize (w.alloc (.cells #[.slice A l.length c] 24)).alloc (.cells #[.int .i64 vk, .int .u8 ((vb.toNat : Nat) : Int), .string (bs vt), .int .i64 vp, .slice B ks.len cv] 27) = w1 at *
  have d0 := HS0.out.box.cell 0
  simp at d0
  obtain ⟨b0, b1, b2, b3, b4⟩ := vl_cells HS0.out.bv
  go_wp2_with fail
  refine (CA.out _ HS0.out).mono ?_; rintro e w2 ⟨x, rfl, ⟨sv, rfl, hx⟩, hb⟩
  have HX := Lib.hid hx
  have HB := Lib.hid (HS0.out.bel.trans (hb.mono HS0.out.bel.size))
  clear hx hb d0 b0 b1 b2 b3 b4
  have hsv : ∃ A' n' c', sv = .slice A' n' c' := by
    have h := HX.out
    cases r with
    | none => exact ⟨_, _, _, h⟩
    | some W => obtain ⟨A', c', h', -⟩ := IsW.len (W := W) h; exact ⟨_, _, _, h'⟩
  obtain ⟨A', n', c', rfl⟩ := hsv
  go_wp2
  go_ret2
  exact ⟨_, rfl, ⟨_, rfl, HX.out⟩, HB.out⟩
/-- A value of few? -/
def fewV (v : Vl) : Bool := decide (cntV v ≤ 400) && decide (v.text.length ≤ 400)
set_option maxHeartbeats 16000000 in
theorem rfewv_any (v : Vl) (hv : cntV v ≤ 4611686018427387904) (u : Value) (w : World) (hu : IsV w u v) : Calls Try.prog 10 #[u] w (Ans w (.bool (fewV v))) := by
  obtain ⟨B, cv, hcv, rfl, hkr⟩ := hu
  have HS0 := Lib.hid (MnS.new (c := cv) hkr)
  have CM : Hid (∀ w', MnS w v B cv w' → Calls Try.prog 17 #[.agg (vlC v B cv)] w' (Ans w' (.int .i64 ((cntV v : Nat) : Int)))) := fun w' h => rmany_any v hv _ w' ⟨B, cv, hcv, rfl, h.row⟩
  unfold fewV
  have hn : cntV v ≤ 4611686018427387904 := hv
  generalize cntV v = n at *
  clear hkr hv
  obtain ⟨vk, vb, vt, vp, ks⟩ := v
  rw [vlC_five] at *
  simp only at *
  have hts : (bs vt).size = vt.length := bs_size vt
  by_cases h1 : n ≤ 400
  · have g1 : (n : Int) ≤ 400 := by omega
    have g1d : decide ((n : Int) ≤ 400) = true := decide_eq_true g1
    by_cases h2 : vt.length ≤ 400
    · have g2 : ((bs vt).size : Int) ≤ 400 := by omega
      have g2d : decide (((bs vt).size : Int) ≤ 400) = true := decide_eq_true g2
      have g2n : (bs vt).size ≤ 400 := by omega
      rw [decide_eq_true h1, decide_eq_true h2]
      clear h2 hts
      go_enter Try.func10, Try.ntmps10
      go_upto_region 1 with (fail)
      generalize w.alloc (.cells #[.int .i64 vk, .int .u8 ((vb.toNat : Nat) : Int), .string (bs vt), .int .i64 vp, .slice B ks.len cv] 27) = w1 at *
      obtain ⟨b0, b1, b2, b3, b4⟩ := vl_cells HS0.out.box
      go_wp2_with fail
      refine (CM.out _ HS0.out).mono ?_; rintro e w2 ⟨rfl, hb⟩
      have HS2 := Lib.hid (HS0.out.later hb)
      clear hb b0 b1 b2 b3 b4 HS0
      obtain ⟨b0, b1, b2, b3, b4⟩ := vl_cells HS2.out.box
      go_wp2
      go_ret
      exact ⟨rfl, HS2.out.bel⟩
    · have g2 : ¬ ((bs vt).size : Int) ≤ 400 := by omega
      have g2d : decide (((bs vt).size : Int) ≤ 400) = false := decide_eq_false g2
      have g2n : ¬ (bs vt).size ≤ 400 := by omega
      rw [decide_eq_true h1, decide_eq_false h2]
      clear h2 hts
      go_enter Try.func10, Try.ntmps10
      go_upto_region 1 with (fail)
      generalize w.alloc (.cells #[.int .i64 vk, .int .u8 ((vb.toNat : Nat) : Int), .string (bs vt), .int .i64 vp, .slice B ks.len cv] 27) = w1 at *
      obtain ⟨b0, b1, b2, b3, b4⟩ := vl_cells HS0.out.box
      go_wp2_with fail
      refine (CM.out _ HS0.out).mono ?_; rintro e w2 ⟨rfl, hb⟩
      have HS2 := Lib.hid (HS0.out.later hb)
      clear hb b0 b1 b2 b3 b4 HS0
      obtain ⟨b0, b1, b2, b3, b4⟩ := vl_cells HS2.out.box
      go_wp2
      go_ret
      exact ⟨rfl, HS2.out.bel⟩
  · have g1 : ¬ (n : Int) ≤ 400 := by omega
    have g1d : decide ((n : Int) ≤ 400) = false := decide_eq_false g1
    rw [decide_eq_false h1]
    clear hts
    go_enter Try.func10, Try.ntmps10
    go_upto_region 1 with (fail)
    generalize w.alloc (.cells #[.int .i64 vk, .int .u8 ((vb.toNat : Nat) : Int), .string (bs vt), .int .i64 vp, .slice B ks.len cv] 27) = w1 at *
    obtain ⟨b0, b1, b2, b3, b4⟩ := vl_cells HS0.out.box
    go_wp2_with fail
    refine (CM.out _ HS0.out).mono ?_; rintro e w2 ⟨rfl, hb⟩
    have HS2 := Lib.hid (HS0.out.later hb)
    clear hb b0 b1 b2 b3 b4 HS0
    obtain ⟨b0, b1, b2, b3, b4⟩ := vl_cells HS2.out.box
    go_wp2
    go_ret
    exact ⟨rfl, HS2.out.bel⟩
end Go.Proofs.Ytgdlbahfmddkaaa
/- What the document's package of layer 2 tells two rows by: the same classes, the same bytes. -/
namespace Go.Proofs.Ytgdlbahfmddkaaa
open Go Go.RowKit
set_option linter.unusedVariables false

theorem take_eq {α : Type} [Inhabited α] (z : α) {l m : List α} {k : Nat} (h1 : k < l.length) (h2 : k < m.length) (ht : l.take k = m.take k) (hx : l.getD k z = m.getD k z) : l.take (k + 1) = m.take (k + 1) := by
  rw [List.take_succ_eq_append_getElem h1, List.take_succ_eq_append_getElem h2, ht]
  have e1 : l.getD k z = l[k] := by simp [h1]
  have e2 : m.getD k z = m[k] := by simp [h2]
  rw [← e1, ← e2, hx]
/-! ### Bytes -/
structure RowsB (w0 : World) (a b : Option Addr) (l m : List Nat) (w : World) : Prop where
  below : Below w0.heap.size w0 w
  r1 : Row8 w a l
  r2 : Row8 w b m
theorem RowsB.later {w0 w w' : World} {a b : Option Addr} {l m : List Nat} (h : RowsB w0 a b l m w) (hb : Below w.heap.size w w') : RowsB w0 a b l m w' :=
  ⟨h.below.trans (hb.mono h.below.size), h.r1.later' hb, h.r2.later' hb⟩
def BytL (w0 : World) (a b : Option Addr) (l m : List Nat) (i : Value) (w : World) : Prop := ∃ k, k ≤ l.length ∧ i = .int .i64 k ∧ l.take k = m.take k ∧ RowsB w0 a b l m w

set_option maxRecDepth 1000000 in
set_option maxHeartbeats 16000000 in
theorem refbytes_any (l m : List Nat) (a b : Option Addr) (c1 c2 : Nat) (w : World) (h1 : Row8 w a l) (h2 : Row8 w b m) (hl : l.length < 1073741824) (hm : m.length < 1073741824) :
    Calls Try.prog 13 #[.slice a l.length c1, .slice b m.length c2] w (Ans w (.bool (l == m))) := by
  by_cases hne : l.length = m.length
  · have H := Lib.hid (RowsB.mk (Below.refl w.heap.size w) h1 h2)
    have HNE := Lib.hid hne
    have hlz : ((l.length : Int) != (m.length : Int)) = false := by rw [bne_eq_false_iff_eq]; omega
    obtain ⟨r, hr⟩ : ∃ r, (l == m) = r := ⟨_, rfl⟩
    rw [hr]
    have HR := Lib.hid hr
    clear h1 h2 hne hr
    go_enter Try.func13, Try.ntmps13
    go_wp2
    go_loopw [5] (BytL w a b l m) (fun i _ => l.length - (intOf i).toNat)
    case atStart => exact ⟨0, Nat.zero_le _, rfl, rfl, H.out⟩
    case round =>
      obtain ⟨k, hk, rfl, ht, hS⟩ := hrel
      have HS := Lib.hid hS
      have HT := Lib.hid ht
      clear hS ht H
      by_cases hlt : k < l.length
      · have hltz : (k : Int) < (l.length : Int) := by omega
        have hkm : k < m.length := by have := HNE.out; omega
        have hkmz : (k : Int) < (m.length : Int) := by omega
        obtain ⟨b1, o1, ha, hb1, _⟩ := HS.out.r1.2.2 k hlt
        obtain ⟨b2, o2, hb, hb2, _⟩ := HS.out.r2.2.2 k hkm
        subst ha hb
        have f1 : ∀ w, Row8 w (some ⟨b1, o1, none⟩) l → w.cell? ⟨b1, o1 + k, none⟩ = some (.int .u8 ((l.getD k 0 : Nat) : Int)) := fun w h => by
          obtain ⟨b, o, e, _, h⟩ := h.2.2 k hlt; cases e; exact h
        have f2 : ∀ w, Row8 w (some ⟨b2, o2, none⟩) m → w.cell? ⟨b2, o2 + k, none⟩ = some (.int .u8 ((m.getD k 0 : Nat) : Int)) := fun w h => by
          obtain ⟨b, o, e, _, h⟩ := h.2.2 k hkm; cases e; exact h
        have F1 := Lib.hid f1
        have F2 := Lib.hid f2
        clear f1 f2
        have HE : Hid (l.getD k 0 = m.getD k 0 → l.take (k + 1) = m.take (k + 1)) := fun hx => take_eq _ hlt hkm HT.out hx
        have HD : Hid (l.getD k 0 ≠ m.getD k 0 → r = false) := fun hx => by
          rw [← HR.out, beq_eq_false_iff_ne]; intro e; exact hx (by rw [e])
        generalize l.getD k 0 = x at *
        generalize m.getD k 0 = y at *
        by_cases hxy : x = y
        · have HE2 := Lib.hid (HE.out hxy)
          have hxz : ((x : Int) != (y : Int)) = false := by rw [bne_eq_false_iff_eq]; omega
          clear hxy HE HD
          go_upto_region 6 with (fail)
          refine wp_region_stable (S := (RowsB w (some ⟨b1, o1, none⟩) (some ⟨b2, o2, none⟩) l m)) (hSt := fun _ _ h hb => h.later hb) (plan := [[(0, none)], [(5, none)], [(17, some 0), (18, some 1)], [(19, some 2)], [(1, none)], [(5, none)], [(21, some 4), (22, some 5)], [(23, some 6)], [(20, some 3), (24, some 7)]]) (by kernel_rfl) (by kernel_rfl) (by kernel_rfl) ?hS ?_
          rotate_left
          iterate 9 first
            | (refine chain_skip (by rfl) (by rfl) ?_)
            | (apply chain_want (by rfl)
               · intro act wx hS hr
                 simp at hr
                 have h1 := F1.out _ hS.r1
                 have h2 := F2.out _ hS.r2
                 go_simp
                 (try go_ints)
                 first
                   | exact Done.same
              )
          show ∀ w', _ → _
          intro wz hz
          simp [Act.put]
          case hS => exact HS.out
          have HZ := Lib.hid hz
          clear hz
          go_wp2
          go_roundw
          case rel => exact ⟨k + 1, by omega, by go_num, HE2.out, HZ.out⟩
          case measure => simp [intOf]; omega
        · have hrf := HD.out hxy
          subst hrf
          have hxz : ((x : Int) != (y : Int)) = true := by rw [bne_iff_ne]; omega
          go_upto_region 6 with (fail)
          refine wp_region_stable (S := (RowsB w (some ⟨b1, o1, none⟩) (some ⟨b2, o2, none⟩) l m)) (hSt := fun _ _ h hb => h.later hb) (plan := [[(0, none)], [(5, none)], [(17, some 0), (18, some 1)], [(19, some 2)], [(1, none)], [(5, none)], [(21, some 4), (22, some 5)], [(23, some 6)], [(20, some 3), (24, some 7)]]) (by kernel_rfl) (by kernel_rfl) (by kernel_rfl) ?hS ?_
          rotate_left
          iterate 9 first
            | (refine chain_skip (by rfl) (by rfl) ?_)
            | (apply chain_want (by rfl)
               · intro act wx hS hr
                 simp at hr
                 have h1 := F1.out _ hS.r1
                 have h2 := F2.out _ hS.r2
                 go_simp
                 (try go_ints)
                 first
                   | exact Done.same
              )
          show ∀ w', _ → _
          intro wz hz
          simp [Act.put]
          case hS => exact HS.out
          have HZ := Lib.hid hz
          clear hz
          go_wp2
          go_ret
          exact ⟨rfl, HZ.out.below⟩
      · obtain rfl : k = l.length := by omega
        have hrt : r = true := by
          rw [← HR.out, beq_iff_eq]
          have := HT.out
          rwa [List.take_length, HNE.out, List.take_length] at this
        subst hrt
        go_wp2
        go_ret
        exact ⟨rfl, HS.out.below⟩
  · have hz : ((l.length : Int) != (m.length : Int)) = true := by rw [bne_iff_ne]; omega
    have hr : (l == m) = false := by rw [beq_eq_false_iff_ne]; intro e; exact hne (by rw [e])
    rw [hr]
    clear h1 h2 hne hr
    go_enter Try.func13, Try.ntmps13
    go_wp2
    go_ret
    exact ⟨rfl, Below.refl _ _⟩
end Go.Proofs.Ytgdlbahfmddkaaa
/- The statement ValueTells of layer 11, walked, of a program that writes, counts and compares values as it should. -/
namespace Go.Proofs.Ytgdlbahfmddkaaa
open Go Go.RowKit
set_option linter.unusedVariables false
set_option linter.unusedSimpArgs false

/-- What the program answers: a word, if there is one. -/
def TupV (r : Option Wd) (x : Value) (w : World) : Prop := ∃ sv, x = .tuple #[sv, .bool r.isSome] ∧ IsW (r.getD []) sv w
theorem TupW.tupV {r : Option Wd} {x : Value} {w : World} (h : TupW r x w) : TupV r x w := by
  obtain ⟨sv, h1, h2⟩ := h
  refine ⟨sv, h1, ?_⟩
  cases r with
  | none => exact .inl ⟨h2, rfl⟩
  | some W => exact h2
def PrV (w : World) (r : Option Wd) (e : Ending) (w' : World) : Prop := ∃ x, e = .returned x ∧ TupV r x w' ∧ Below w.heap.size w w'
/-- What is asked of the program's own calls. -/
def WriteC : Prop := ∀ (l : List Nd) (A : Option Addr) (c : Nat) (v : Vl) (u : Value) (w : World), Form l → l.length ≤ c → l.length ≤ 536870912 → (∀ n ∈ l, n.text.length ≤ 2000) → cntV v ≤ 100000 → NRow w A l → IsV w u v →
  Calls Try.prog 11 #[.agg #[.slice A l.length c], u] w (PrV w (wrD l v))
def SameC : Prop := ∀ (a b : Vl) (u v : Value) (w : World), cntV a ≤ 100000000 → cntV b ≤ 100000000 → IsV w u a → IsV w v b → Calls Try.prog 14 #[u, v] w (Ans w (.bool (sameV a b)))
def ManyC : Prop := ∀ (v : Vl) (u : Value) (w : World), cntV v ≤ 100000000 → IsV w u v → Calls Try.prog 16 #[u] w (Ans w (.int .i64 ((cntV v : Nat) : Int)))
def Awake11 : Prop := ∀ (w : World), Calls Try.prog 7 #[] w (Ans w (.bool true))
theorem rsame_c {a b : Vl} {u v : Value} {w : World} (h : cntV a ≤ 100000000) (hu : IsV w u a) (hv : IsV w v b) : Calls Try.prog 15 #[u, v] w (Ans w (.bool (sameV a b))) :=
  rsame_any a b (by have := cntVs_len a.kids; unfold cntV at h; omega) (fun x hx => by have := cntVs_len x.kids; unfold cntV at hx h; omega) u v w hu hv
theorem bytes_rowV (l m : List Nat) (v u : Value) (w : World) (hv : IsBytes l v w) (hu : IsBytes m u w) (hl : l.length < 1073741824) (hm : m.length < 1073741824) : Calls Try.prog 13 #[v, u] w (Ans w (.bool (l == m))) := by
  obtain ⟨a, c1, rfl, h1⟩ := hv
  obtain ⟨b, c2, rfl, h2⟩ := hu
  exact refbytes_any l m a b c1 c2 w h1 h2 hl hm
/-- A description and two values in their boxes. -/
structure VuS (w0 : World) (A : Option Addr) (l : List Nd) (c : Nat) (v : Vl) (B : Option Addr) (cv : Nat) (u : Vl) (D : Option Addr) (cu : Nat) (w : World) : Prop where
  bel : Below w0.heap.size w0 w
  row : NRow w A l
  box : Blk w w0.heap.size #[.slice A l.length c] 24
  bv : Blk w (w0.heap.size + 1) (vlC v B cv) 27
  bu : Blk w (w0.heap.size + 2) (vlC u D cu) 27
  rv : VRow w B 0 v.kids
  ru : VRow w D 0 u.kids
theorem VuS.later {w0 w w' : World} {A : Option Addr} {l : List Nd} {c : Nat} {v : Vl} {B : Option Addr} {cv : Nat} {u : Vl} {D : Option Addr} {cu : Nat} (h : VuS w0 A l c v B cv u D cu w) (hb : Below w.heap.size w w') : VuS w0 A l c v B cv u D cu w' :=
  ⟨h.bel.trans (hb.mono h.bel.size), h.row.later hb, h.box.later hb, h.bv.later hb, h.bu.later hb, h.rv.later hb, h.ru.later hb⟩
theorem VuS.new (w : World) (A : Option Addr) (l : List Nd) (c : Nat) (v : Vl) (B : Option Addr) (cv : Nat) (u : Vl) (D : Option Addr) (cu : Nat) (h : NRow w A l) (k : VRow w B 0 v.kids) (k2 : VRow w D 0 u.kids) :
    VuS w A l c v B cv u D cu (((w.alloc (.cells #[.slice A l.length c] 24)).alloc (.cells (vlC v B cv) 27)).alloc (.cells (vlC u D cu) 27)) := by
  have HB := (((Below.refl w.heap.size w).alloc (Nat.le_refl _) (.cells #[.slice A l.length c] 24)).alloc (by simp) (.cells (vlC v B cv) 27)).alloc (by simp; omega) (.cells (vlC u D cu) 27)
  exact ⟨HB, h.later HB, ((Blk.new w _ _).alloc _).alloc _, (Blk.new' (by simp) _ _).alloc _, Blk.new' (by simp) _ _, k.later HB, k2.later HB⟩
structure VuW (w0 : World) (A : Option Addr) (l : List Nd) (c : Nat) (v : Vl) (B : Option Addr) (cv : Nat) (u : Vl) (D : Option Addr) (cu : Nat) (W : Wd) (x y : Value) (w : World) : Prop where
  s : VuS w0 A l c v B cv u D cu w
  x : IsW W x w
  y : IsW W y w
theorem VuW.later {w0 w w' : World} {A : Option Addr} {l : List Nd} {c : Nat} {v : Vl} {B : Option Addr} {cv : Nat} {u : Vl} {D : Option Addr} {cu : Nat} {W : Wd} {x y : Value} (h : VuW w0 A l c v B cv u D cu W x y w) (hb : Below w.heap.size w w') : VuW w0 A l c v B cv u D cu W x y w' := ⟨h.s.later hb, h.x.later hb, h.y.later hb⟩
set_option maxHeartbeats 64000000 in
set_option maxRecDepth 1000000 in
theorem valuetells_walk (HWR : WriteC) (HSM : SameC) (HMN : ManyC) (HAW : Awake11) (l : List Nd) (A : Option Addr) (c : Nat) (v u : Vl) (x y : Value) (hc1 : l.length ≤ c) (hl : l.length ≤ 9223372036854775807) (htx : Txt l) (hv : cntV v ≤ 1048576) (hu : cntV u ≤ 1048576) (w : World) (hrow : NRow w A l) (hx : IsV w x v) (hy : IsV w y u) :
    Calls Try.prog 3 #[.agg #[.slice A l.length c], x, y] w (Ans w (.bool true)) := by
  obtain ⟨B, cv, hcv, rfl, hkv⟩ := hx
  obtain ⟨D, cu, hcu, rfl, hku⟩ := hy
  have HS0 := Lib.hid (VuS.new w A l c v B cv u D cu hrow hkv hku)
  have HTX := Lib.hid htx
  have FV : Hid (∀ w', VuS w A l c v B cv u D cu w' → Calls Try.prog 10 #[.agg (vlC v B cv)] w' (Ans w' (.bool (fewV v)))) := fun w' h => rfewv_any v (by omega) _ w' ⟨B, cv, hcv, rfl, h.rv⟩
  have FU : Hid (∀ w', VuS w A l c v B cv u D cu w' → Calls Try.prog 10 #[.agg (vlC u D cu)] w' (Ans w' (.bool (fewV u)))) := fun w' h => rfewv_any u (by omega) _ w' ⟨D, cu, hcu, rfl, h.ru⟩
  have CW : Hid (∀ w', Sp l → (∀ n ∈ l, n.text.length ≤ 2000) → VuS w A l c v B cv u D cu w' → fewV v = true → Calls Try.prog 11 #[.agg #[.slice A l.length c], .agg (vlC v B cv)] w' (PrV w' (wrD l v))) := fun w' h1 h2 h h3 => HWR l A c v _ w' h1.sm.form hc1 (by have := h1.sm.len; omega) h2 (by unfold fewV at h3; simp at h3; omega) h.row ⟨B, cv, hcv, rfl, h.rv⟩
  have CR : Hid (∀ w', Sp l → (∀ n ∈ l, n.text.length ≤ 2000) → VuS w A l c v B cv u D cu w' → fewV v = true → Calls Try.prog 12 #[.agg #[.slice A l.length c], .agg (vlC v B cv)] w' (AtP w' (wrD l v))) := fun w' h1 h2 h h3 => rwrite_any l A c h1.sm.form hc1 (by have := h1.sm.len; omega) h2 v (by unfold fewV at h3; simp at h3; omega) _ w' h.row ⟨B, cv, hcv, rfl, h.rv⟩
  have CS : Hid (∀ w', VuS w A l c v B cv u D cu w' → Calls Try.prog 14 #[.agg (vlC v B cv), .agg (vlC u D cu)] w' (Ans w' (.bool (sameV v u)))) := fun w' h => HSM v u _ _ w' (by omega) (by omega) ⟨B, cv, hcv, rfl, h.rv⟩ ⟨D, cu, hcu, rfl, h.ru⟩
  have CT : Hid (∀ w', VuS w A l c v B cv u D cu w' → Calls Try.prog 15 #[.agg (vlC v B cv), .agg (vlC u D cu)] w' (Ans w' (.bool (sameV v u)))) := fun w' h => rsame_c (by omega) ⟨B, cv, hcv, rfl, h.rv⟩ ⟨D, cu, hcu, rfl, h.ru⟩
  have CM : Hid (∀ w', VuS w A l c v B cv u D cu w' → Calls Try.prog 16 #[.agg (vlC v B cv)] w' (Ans w' (.int .i64 ((cntV v : Nat) : Int)))) := fun w' h => HMN v _ w' (by omega) ⟨B, cv, hcv, rfl, h.rv⟩
  have CN : Hid (∀ w', VuS w A l c v B cv u D cu w' → Calls Try.prog 17 #[.agg (vlC v B cv)] w' (Ans w' (.int .i64 ((cntV v : Nat) : Int)))) := fun w' h => rmany_any v (by omega) _ w' ⟨B, cv, hcv, rfl, h.rv⟩
  have HLW : Hid ((∀ n ∈ l, n.text.length ≤ 2000) → fewV v = true → ∀ W, wrD l v = some W → W.length ≤ 1000000) := fun h1 h2 W h => by
    have := wrV_len h1 v _ W h
    have h3 : cntV v ≤ 400 := by unfold fewV at h2; simp at h2; omega
    have : (2000 + 2) * cntV v ≤ (2000 + 2) * 400 := Nat.mul_le_mul_left _ h3
    omega
  generalize sameV v u = sb at *
  generalize cntV v = nv at *
  generalize fewV v = fv at *
  generalize fewV u = fu at *
  generalize wrD l v = r at *
  clear hrow hkv hku htx hcv hcu hu HWR HSM HMN
  obtain ⟨vk, vb, vt, vp, ks⟩ := v
  obtain ⟨uk, ub, ut, up, us⟩ := u
  rw [vlC_five, vlC_five] at *
  simp only at *
  go_enter Try.func3, Try.ntmps3
  go_upto_region 1 with (fail)
  generalize ((w.alloc (.cells #[.slice A l.length c] 24)).alloc (.cells #[.int .i64 vk, .int .u8 ((vb.toNat : Nat) : Int), .string (bs vt), .int .i64 vp, .slice B ks.len cv] 27)).alloc (.cells #[.int .i64 uk, .int .u8 ((ub.toNat : Nat) : Int), .string (bs ut), .int .i64 up, .slice D us.len cu] 27) = w1 at *
  go_wp2_with fail
  refine (HAW _).mono ?_; rintro e w2 ⟨rfl, hb⟩
  have HS2 := Lib.hid (HS0.out.later hb)
  clear hb HS0
  have d0 := HS2.out.box.cell 0
  simp at d0
  obtain ⟨b0, b1, b2, b3, b4⟩ := vl_cells HS2.out.bv
  obtain ⟨c0, c1, c2, c3, c4⟩ := vl_cells HS2.out.bu
  have HF := Lib.hid (few_any l A c hl HTX.out _ HS2.out.row)
  cases hf : fewB l with
  | false =>
    rw [hf] at HF
    clear hf
    go_wp2_with fail
    refine HF.out.mono ?_; rintro e wa ⟨rfl, hb⟩
    have HSZ := Lib.hid (HS2.out.later hb)
    clear hb d0 b0 b1 b2 b3 b4 c0 c1 c2 c3 c4 HF HS2
    go_wp2_with fail
    refine (HAW _).mono ?_; rintro e WN ⟨rfl, hb⟩
    have HSY := Lib.hid (HSZ.out.later hb)
    clear hb
    go_wp2
    go_ret
    exact ⟨rfl, HSY.out.bel⟩
  | true =>
    rw [hf] at HF
    have KF := Lib.hid hf
    clear hf
    go_wp2_with fail
    refine HF.out.mono ?_; rintro e w3 ⟨rfl, hb⟩
    have HS3 := Lib.hid (HS2.out.later hb)
    clear hb d0 b0 b1 b2 b3 b4 c0 c1 c2 c3 c4 HF HS2
    have d0 := HS3.out.box.cell 0
    simp at d0
    obtain ⟨b0, b1, b2, b3, b4⟩ := vl_cells HS3.out.bv
    obtain ⟨c0, c1, c2, c3, c4⟩ := vl_cells HS3.out.bu
    have HF := Lib.hid (rright_any l A c hc1 (by have := (few_txt KF.out).1; omega) HTX.out _ HS3.out.row)
    cases hf : rgB l with
    | false =>
      rw [hf] at HF
      clear hf
      go_wp2_with fail
      refine HF.out.mono ?_; rintro e wa ⟨rfl, hb⟩
      have HSZ := Lib.hid (HS3.out.later hb)
      clear hb d0 b0 b1 b2 b3 b4 c0 c1 c2 c3 c4 HF HS3
      go_wp2_with fail
      refine (HAW _).mono ?_; rintro e WN ⟨rfl, hb⟩
      have HSY := Lib.hid (HSZ.out.later hb)
      clear hb
      go_wp2
      go_ret
      exact ⟨rfl, HSY.out.bel⟩
    | true =>
      rw [hf] at HF
      have KR := Lib.hid hf
      clear hf
      go_wp2_with fail
      refine HF.out.mono ?_; rintro e w4 ⟨rfl, hb⟩
      have HS4 := Lib.hid (HS3.out.later hb)
      clear hb d0 b0 b1 b2 b3 b4 c0 c1 c2 c3 c4 HF HS3
      have d0 := HS4.out.box.cell 0
      simp at d0
      obtain ⟨b0, b1, b2, b3, b4⟩ := vl_cells HS4.out.bv
      obtain ⟨c0, c1, c2, c3, c4⟩ := vl_cells HS4.out.bu
      have HF := Lib.hid (FV.out _ HS4.out)
      cases hf : fv with
      | false =>
        rw [hf] at HF
        clear hf
        go_wp2_with fail
        refine HF.out.mono ?_; rintro e wa ⟨rfl, hb⟩
        have HSZ := Lib.hid (HS4.out.later hb)
        clear hb d0 b0 b1 b2 b3 b4 c0 c1 c2 c3 c4 HF HS4
        go_wp2_with fail
        refine (HAW _).mono ?_; rintro e WN ⟨rfl, hb⟩
        have HSY := Lib.hid (HSZ.out.later hb)
        clear hb
        go_wp2
        go_ret
        exact ⟨rfl, HSY.out.bel⟩
      | true =>
        rw [hf] at HF
        have KV := Lib.hid hf
        clear hf
        go_wp2_with fail
        refine HF.out.mono ?_; rintro e w5 ⟨rfl, hb⟩
        have HS5 := Lib.hid (HS4.out.later hb)
        clear hb d0 b0 b1 b2 b3 b4 c0 c1 c2 c3 c4 HF HS4
        have d0 := HS5.out.box.cell 0
        simp at d0
        obtain ⟨b0, b1, b2, b3, b4⟩ := vl_cells HS5.out.bv
        obtain ⟨c0, c1, c2, c3, c4⟩ := vl_cells HS5.out.bu
        have HF := Lib.hid (FU.out _ HS5.out)
        cases hf : fu with
        | false =>
          rw [hf] at HF
          clear hf
          go_wp2_with fail
          refine HF.out.mono ?_; rintro e wa ⟨rfl, hb⟩
          have HSZ := Lib.hid (HS5.out.later hb)
          clear hb d0 b0 b1 b2 b3 b4 c0 c1 c2 c3 c4 HF HS5
          go_wp2_with fail
          refine (HAW _).mono ?_; rintro e WN ⟨rfl, hb⟩
          have HSY := Lib.hid (HSZ.out.later hb)
          clear hb
          go_wp2
          go_ret
          exact ⟨rfl, HSY.out.bel⟩
        | true =>
          rw [hf] at HF
          have KU := Lib.hid hf
          clear hf
          go_wp2_with fail
          refine HF.out.mono ?_; rintro e w6 ⟨rfl, hb⟩
          have HS6 := Lib.hid (HS5.out.later hb)
          clear hb d0 b0 b1 b2 b3 b4 c0 c1 c2 c3 c4 HF HS5
          have d0 := HS6.out.box.cell 0
          simp at d0
          obtain ⟨b0, b1, b2, b3, b4⟩ := vl_cells HS6.out.bv
          obtain ⟨c0, c1, c2, c3, c4⟩ := vl_cells HS6.out.bu
          have htl : ∀ n ∈ l, n.text.length ≤ 2000 := (few_txt KF.out).2
          have hsp := few_sp KF.out ((rgB_iff l).1 KR.out).1
          have CW := Lib.hid (fun w' h => CW.out w' hsp htl h KV.out)
          have CR := Lib.hid (fun w' h => CR.out w' hsp htl h KV.out)
          have HLW := Lib.hid (HLW.out htl KV.out)
          clear htl hsp
          go_wp2_with fail
          refine (CW.out _ HS6.out).mono ?_; rintro e w7 ⟨x7, rfl, ⟨sx, rfl, hx7⟩, hb⟩
          have HS7 := Lib.hid (HS6.out.later hb)
          have HX7 := Lib.hid hx7
          clear hb hx7 HS6 d0 b0 b1 b2 b3 b4 c0 c1 c2 c3 c4
          obtain ⟨AX, capX, rfl, -⟩ := HX7.out.len
          have d0 := HS7.out.box.cell 0
          simp at d0
          obtain ⟨b0, b1, b2, b3, b4⟩ := vl_cells HS7.out.bv
          obtain ⟨c0, c1, c2, c3, c4⟩ := vl_cells HS7.out.bu
          go_wp2_with fail
          refine (CR.out _ HS7.out).mono ?_; rintro e w8 ⟨x8, rfl, hx8, hb⟩
          obtain ⟨sy, rfl, hy8⟩ := hx8.tupV
          have HS8 : Hid (VuW w A l c ⟨vk, vb, vt, vp, ks⟩ B cv ⟨uk, ub, ut, up, us⟩ D cu (r.getD []) (.slice AX (r.getD []).length capX) sy w8) := ⟨HS7.out.later hb, HX7.out.later hb, hy8⟩
          have hlen : (r.getD []).length < 1073741824 := by
            cases r with
            | none => decide
            | some W => have := HLW.out W rfl; simp only [Option.getD_some]; omega
          obtain ⟨AY, capY, rfl, -⟩ := IsW.len hy8
          have CB : Hid (∀ w', VuW w A l c ⟨vk, vb, vt, vp, ks⟩ B cv ⟨uk, ub, ut, up, us⟩ D cu (r.getD []) (.slice AX (r.getD []).length capX) (.slice AY (r.getD []).length capY) w' → Calls Try.prog 13 #[.slice AX (r.getD []).length capX, .slice AY (r.getD []).length capY] w' (Ans w' (.bool true))) := fun w' h => by
            have := bytes_rowV _ _ _ _ w' h.x.bytes h.y.bytes (by rw [nats_length]; exact hlen) (by rw [nats_length]; exact hlen)
            rwa [show (nats (r.getD []) == nats (r.getD [])) = true by simp] at this
          clear hb hx8 hy8 HS7 HX7 d0 b0 b1 b2 b3 b4 c0 c1 c2 c3 c4 hlen HLW
          generalize (r.getD []).length = nw at *
          generalize r.getD [] = W at *
          generalize r.isSome = ok at *
          have hok : (ok == ok) = true := by simp
          have hsb : (sb == sb) = true := by simp
          have hnv : ((nv : Int) == (nv : Int)) = true := by simp
          go_upto_region 5 with (fail)
          refine wp_region_stable (S := (VuW w A l c ⟨vk, vb, vt, vp, ks⟩ B cv ⟨uk, ub, ut, up, us⟩ D cu W (.slice AX nw capX) (.slice AY nw capY))) (hSt := fun _ _ h hb => h.later hb) (plan := [[(7, none)], [(9, none)], [(46, some 0), (47, some 1)], [(48, some 2)], [(8, none)], [(10, none)], [(50, some 4), (51, some 5)], [(49, some 3), (52, some 6)], [(53, some 7)], [(4, none)], [(5, none)], [(55, some 9), (56, some 10)], [(4, none)], [(5, none)], [(58, some 12), (59, some 13)], [(57, some 11), (60, some 14)], [(54, some 8), (61, some 15)], [(62, some 16)], [(4, none)], [(64, some 18)], [(4, none)], [(66, some 20)], [(65, some 19), (67, some 21)], [(63, some 17), (68, some 22)], [(69, some 23)]]) (by kernel_rfl) (by kernel_rfl) (by kernel_rfl) ?hS ?_
          rotate_left
          iterate 25 first
            | (refine chain_skip (by rfl) (by rfl) ?_)
            | (apply chain_want (by rfl)
               · intro act wx hS hr
                 simp at hr
                 have d0 := hS.s.box.cell 0
                 simp at d0
                 obtain ⟨b0, b1, b2, b3, b4⟩ := vl_cells hS.s.bv
                 obtain ⟨c0, c1, c2, c3, c4⟩ := vl_cells hS.s.bu
                 go_simp
                 (try go_ints)
                 first
                   | ((with_reducible refine (CB.out _ hS).mono ?_); rintro e w' ⟨rfl, hb⟩; exact Done.mk hb)
                   | ((with_reducible refine (CS.out _ hS.s).mono ?_); rintro e w' ⟨rfl, hb⟩; exact Done.mk hb)
                   | ((with_reducible refine (CT.out _ hS.s).mono ?_); rintro e w' ⟨rfl, hb⟩; exact Done.mk hb)
                   | ((with_reducible refine (CM.out _ hS.s).mono ?_); rintro e w' ⟨rfl, hb⟩; exact Done.mk hb)
                   | ((with_reducible refine (CN.out _ hS.s).mono ?_); rintro e w' ⟨rfl, hb⟩; exact Done.mk hb)
                   | exact Done.same
              )
          show ∀ w', _ → _
          intro wz hz
          simp [Act.put]
          case hS => exact HS8.out
          have HB := Lib.hid hz.s.bel
          clear hz
          go_wp2
          go_ret
          exact ⟨rfl, HB.out⟩
end Go.Proofs.Ytgdlbahfmddkaaa
