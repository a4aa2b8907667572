/- The statement SplitTells of layer 2, walked. -/
import Derived.Test.YtjopngcjahdodaaDoorSplitRParts
import Derived.Test.YtjopngcjahdodaaDoorSplitRRef
namespace Go.Proofs.YtjopngcjahdodaaDoor
open Go Go.RowKit
set_option linter.unusedVariables false

structure TelS (w0 : World) (A B : Option Addr) (l m : List (BitVec 256)) (a : BitVec 256) (w : World) : Prop where
  below : Below w0.heap.size w0 w
  deb : Deb w
  r1 : LRow w A l
  r2 : LRow w B m
  box : Blk w w0.heap.size (cells4 a) 25
theorem TelS.later {w0 w w' : World} {A B : Option Addr} {l m : List (BitVec 256)} {a : BitVec 256} (h : TelS w0 A B l m a w) (hb : Below w.heap.size w w') : TelS w0 A B l m a w' :=
  ⟨h.below.trans (hb.mono h.below.size), h.deb.below hb, h.r1.later hb, h.r2.later hb, h.box.later hb⟩

set_option maxRecDepth 1000000 in
set_option maxHeartbeats 32000000 in
theorem splittells_walk (l m : List (BitVec 256)) (a : BitVec 256) (A B : Option Addr) (c1 c2 : Nat) (w : World) (hd : Deb w) (h1 : LRow w A l) (h2 : LRow w B m) (hA : l.length ≤ 9223372036854775807) (hB : m.length ≤ 9223372036854775807) :
    Calls Tryd.prog 3 #[.slice A l.length c1, .slice B m.length c2, cls a] w (Ans w (.bool true)) := by
  have hs0 : TelS w A B l m a (w.alloc (.cells (cells4 a) 25)) := by
    have hb : Below w.heap.size w (w.alloc (.cells (cells4 a) 25)) := (Below.refl _ _).alloc (Nat.le_refl _) _
    exact ⟨hb, hd.below hb, h1.later hb, h2.later hb, Blk.new _ _ _⟩
  have HS0 := Lib.hid hs0
  clear hs0 hd h1 h2
  unfold cls
  go_enter Tryd.func3, Tryd.ntmps3
  by_cases h8 : 12 < l.length
  · have h8b : decide ((12 : Int) < (l.length : Int)) = true := by simp; omega
    have h8n : (l.length : Int) > 12 := by omega
    go_wp2_with fail
    refine (awake2_any _ HS0.out.deb).mono ?_; rintro e w1 ⟨rfl, hb⟩
    go_wp2_with fail
    refine (awake2_any _ (HS0.out.deb.below hb)).mono ?_; rintro e w2 ⟨rfl, hb2⟩
    have HF := Lib.hid (HS0.out.below.trans ((hb.trans (hb2.mono hb.size)).mono HS0.out.below.size))
    clear hb hb2
    go_wp2
    go_ret
    exact ⟨rfl, HF.out⟩
  · have h8b : decide ((12 : Int) < (l.length : Int)) = false := by simp; omega
    have h8n : ¬ (l.length : Int) > 12 := by omega
    by_cases h9 : 12 < m.length
    · have h9b : decide ((12 : Int) < (m.length : Int)) = true := by simp; omega
      have h9n : (m.length : Int) > 12 := by omega
      go_wp2_with fail
      refine (awake2_any _ HS0.out.deb).mono ?_; rintro e w1 ⟨rfl, hb⟩
      go_wp2_with fail
      refine (awake2_any _ (HS0.out.deb.below hb)).mono ?_; rintro e w2 ⟨rfl, hb2⟩
      have HF := Lib.hid (HS0.out.below.trans ((hb.trans (hb2.mono hb.size)).mono HS0.out.below.size))
      clear hb hb2
      go_wp2
      go_ret
      exact ⟨rfl, HF.out⟩
    · have h9b : decide ((12 : Int) < (m.length : Int)) = false := by simp; omega
      have h9n : ¬ (m.length : Int) > 12 := by omega
      have hll : l.length < 1073741824 := by omega
      have hml : m.length < 268435456 := by omega
      have hml2 : m.length < 1048576 := by omega
      have hpl : (partsL l).length < 1073741824 := by rw [parts_length]; have := heads_le l; omega
      have hhl : (headsL l).length < 1073741824 := by have := heads_le l; omega
      have hrl : (refineL m a).length < 1073741824 := by rw [refine_length]; have := pieces_len a m; omega
      go_wp2_with fail
      refine (awake2_any _ HS0.out.deb).mono ?_; rintro e w1 ⟨rfl, hb⟩
      have HS1 := Lib.hid (HS0.out.later hb)
      clear hb
      go_upto_region 3 with (fail)
      refine wp_region_stable (S := (TelS w A B l m a)) (hSt := fun _ _ h hb => h.later hb) (plan := [[(0, none)], [(20, some 0)], [(0, none)], [(22, some 2)], [(21, some 1), (23, some 3)], [(24, some 4)], [(0, none)], [(26, some 6)], [(0, none)], [(28, some 8)], [(27, some 7), (29, some 9)], [(25, some 5), (30, some 10)], [(31, some 11)], [(1, none)], [(5, none)], [(33, some 13), (34, some 14)], [(1, none)], [(5, none)], [(36, some 16), (37, some 17)], [(35, some 15), (38, some 18)], [(32, some 12), (39, some 19)], [(40, some 20)]]) (by kernel_rfl) (by kernel_rfl) (by kernel_rfl) ?hS ?_
      rotate_left
      iterate 1 first
        | (refine chain_skip (by rfl) (by rfl) ?_)
        | (apply chain_want (by rfl)
           · intro act wx hS hr
             simp at hr
             have hx := hS.box.cells
             go_simp
             (try go_ints)
             first
               | exact Done.same (v := cls _)
               | (obtain ⟨⟨v1, e1, hv1⟩, v2, e2, hv2⟩ := hr; simp only [e1, e2]; refine (bytes_row (headsL l) (headsL l) _ _ _ hv1 hv2 hhl hhl).mono ?_; rintro e w' ⟨rfl, hb⟩; rw [beq_self_eq_true]; exact Done.mk hb)
               | (obtain ⟨⟨v1, e1, hv1⟩, v2, e2, hv2⟩ := hr; simp only [e1, e2]; refine (same_row (partsL l) (partsL l) _ _ _ hv1 hv2 hpl hpl).mono ?_; rintro e w' ⟨rfl, hb⟩; rw [beq_self_eq_true]; exact Done.mk hb)
               | (obtain ⟨⟨v1, e1, hv1⟩, v2, e2, hv2⟩ := hr; simp only [e1, e2]; refine (same_row (refineL m a) (refineL m a) _ _ _ hv1 hv2 hrl hrl).mono ?_; rintro e w' ⟨rfl, hb⟩; rw [beq_self_eq_true]; exact Done.mk hb)
               | exact Done.same
          )
      (refine chain_rel (IsRow (partsL l)) (IsRow.later _) (by rfl) ?_ ?_
       · intro act wx hS hr
         simp at hr
         have hx := hS.box.cells
         go_simp
         refine (parts_any l A c1 _ hS.r1 hS.deb hll).mono ?_
         rintro e w' ⟨v', rfl, hv', hb⟩
         exact Done.rel hb hv'
      )
      iterate 1 first
        | (refine chain_skip (by rfl) (by rfl) ?_)
        | (apply chain_want (by rfl)
           · intro act wx hS hr
             simp at hr
             have hx := hS.box.cells
             go_simp
             (try go_ints)
             first
               | exact Done.same (v := cls _)
               | (obtain ⟨⟨v1, e1, hv1⟩, v2, e2, hv2⟩ := hr; simp only [e1, e2]; refine (bytes_row (headsL l) (headsL l) _ _ _ hv1 hv2 hhl hhl).mono ?_; rintro e w' ⟨rfl, hb⟩; rw [beq_self_eq_true]; exact Done.mk hb)
               | (obtain ⟨⟨v1, e1, hv1⟩, v2, e2, hv2⟩ := hr; simp only [e1, e2]; refine (same_row (partsL l) (partsL l) _ _ _ hv1 hv2 hpl hpl).mono ?_; rintro e w' ⟨rfl, hb⟩; rw [beq_self_eq_true]; exact Done.mk hb)
               | (obtain ⟨⟨v1, e1, hv1⟩, v2, e2, hv2⟩ := hr; simp only [e1, e2]; refine (same_row (refineL m a) (refineL m a) _ _ _ hv1 hv2 hrl hrl).mono ?_; rintro e w' ⟨rfl, hb⟩; rw [beq_self_eq_true]; exact Done.mk hb)
               | exact Done.same
          )
      (refine chain_rel (IsRow (partsL l)) (IsRow.later _) (by rfl) ?_ ?_
       · intro act wx hS hr
         simp at hr
         have hx := hS.box.cells
         go_simp
         refine (refparts_any l A c1 _ hS.r1 hll).mono ?_
         rintro e w' ⟨v', rfl, hv', hb⟩
         exact Done.rel hb hv'
      )
      iterate 3 first
        | (refine chain_skip (by rfl) (by rfl) ?_)
        | (apply chain_want (by rfl)
           · intro act wx hS hr
             simp at hr
             have hx := hS.box.cells
             go_simp
             (try go_ints)
             first
               | exact Done.same (v := cls _)
               | (obtain ⟨⟨v1, e1, hv1⟩, v2, e2, hv2⟩ := hr; simp only [e1, e2]; refine (bytes_row (headsL l) (headsL l) _ _ _ hv1 hv2 hhl hhl).mono ?_; rintro e w' ⟨rfl, hb⟩; rw [beq_self_eq_true]; exact Done.mk hb)
               | (obtain ⟨⟨v1, e1, hv1⟩, v2, e2, hv2⟩ := hr; simp only [e1, e2]; refine (same_row (partsL l) (partsL l) _ _ _ hv1 hv2 hpl hpl).mono ?_; rintro e w' ⟨rfl, hb⟩; rw [beq_self_eq_true]; exact Done.mk hb)
               | (obtain ⟨⟨v1, e1, hv1⟩, v2, e2, hv2⟩ := hr; simp only [e1, e2]; refine (same_row (refineL m a) (refineL m a) _ _ _ hv1 hv2 hrl hrl).mono ?_; rintro e w' ⟨rfl, hb⟩; rw [beq_self_eq_true]; exact Done.mk hb)
               | exact Done.same
          )
      (refine chain_rel (IsBytes (headsL l)) (IsBytes.later _) (by rfl) ?_ ?_
       · intro act wx hS hr
         simp at hr
         have hx := hS.box.cells
         go_simp
         refine (heads_any l A c1 _ hS.r1 hS.deb hll).mono ?_
         rintro e w' ⟨v', rfl, hv', hb⟩
         exact Done.rel hb hv'
      )
      iterate 1 first
        | (refine chain_skip (by rfl) (by rfl) ?_)
        | (apply chain_want (by rfl)
           · intro act wx hS hr
             simp at hr
             have hx := hS.box.cells
             go_simp
             (try go_ints)
             first
               | exact Done.same (v := cls _)
               | (obtain ⟨⟨v1, e1, hv1⟩, v2, e2, hv2⟩ := hr; simp only [e1, e2]; refine (bytes_row (headsL l) (headsL l) _ _ _ hv1 hv2 hhl hhl).mono ?_; rintro e w' ⟨rfl, hb⟩; rw [beq_self_eq_true]; exact Done.mk hb)
               | (obtain ⟨⟨v1, e1, hv1⟩, v2, e2, hv2⟩ := hr; simp only [e1, e2]; refine (same_row (partsL l) (partsL l) _ _ _ hv1 hv2 hpl hpl).mono ?_; rintro e w' ⟨rfl, hb⟩; rw [beq_self_eq_true]; exact Done.mk hb)
               | (obtain ⟨⟨v1, e1, hv1⟩, v2, e2, hv2⟩ := hr; simp only [e1, e2]; refine (same_row (refineL m a) (refineL m a) _ _ _ hv1 hv2 hrl hrl).mono ?_; rintro e w' ⟨rfl, hb⟩; rw [beq_self_eq_true]; exact Done.mk hb)
               | exact Done.same
          )
      (refine chain_rel (IsBytes (headsL l)) (IsBytes.later _) (by rfl) ?_ ?_
       · intro act wx hS hr
         simp at hr
         have hx := hS.box.cells
         go_simp
         refine (refheads_any l A c1 _ hS.r1 hll).mono ?_
         rintro e w' ⟨v', rfl, hv', hb⟩
         exact Done.rel hb hv'
      )
      iterate 5 first
        | (refine chain_skip (by rfl) (by rfl) ?_)
        | (apply chain_want (by rfl)
           · intro act wx hS hr
             simp at hr
             have hx := hS.box.cells
             go_simp
             (try go_ints)
             first
               | exact Done.same (v := cls _)
               | (obtain ⟨⟨v1, e1, hv1⟩, v2, e2, hv2⟩ := hr; simp only [e1, e2]; refine (bytes_row (headsL l) (headsL l) _ _ _ hv1 hv2 hhl hhl).mono ?_; rintro e w' ⟨rfl, hb⟩; rw [beq_self_eq_true]; exact Done.mk hb)
               | (obtain ⟨⟨v1, e1, hv1⟩, v2, e2, hv2⟩ := hr; simp only [e1, e2]; refine (same_row (partsL l) (partsL l) _ _ _ hv1 hv2 hpl hpl).mono ?_; rintro e w' ⟨rfl, hb⟩; rw [beq_self_eq_true]; exact Done.mk hb)
               | (obtain ⟨⟨v1, e1, hv1⟩, v2, e2, hv2⟩ := hr; simp only [e1, e2]; refine (same_row (refineL m a) (refineL m a) _ _ _ hv1 hv2 hrl hrl).mono ?_; rintro e w' ⟨rfl, hb⟩; rw [beq_self_eq_true]; exact Done.mk hb)
               | exact Done.same
          )
      (refine chain_rel (IsRow (refineL m a)) (IsRow.later _) (by rfl) ?_ ?_
       · intro act wx hS hr
         simp at hr
         have hx := hS.box.cells
         go_simp
         refine (refine_any m B c2 a _ hS.r2 hS.deb hml).mono ?_
         rintro e w' ⟨v', rfl, hv', hb⟩
         exact Done.rel hb hv'
      )
      iterate 2 first
        | (refine chain_skip (by rfl) (by rfl) ?_)
        | (apply chain_want (by rfl)
           · intro act wx hS hr
             simp at hr
             have hx := hS.box.cells
             go_simp
             (try go_ints)
             first
               | exact Done.same (v := cls _)
               | (obtain ⟨⟨v1, e1, hv1⟩, v2, e2, hv2⟩ := hr; simp only [e1, e2]; refine (bytes_row (headsL l) (headsL l) _ _ _ hv1 hv2 hhl hhl).mono ?_; rintro e w' ⟨rfl, hb⟩; rw [beq_self_eq_true]; exact Done.mk hb)
               | (obtain ⟨⟨v1, e1, hv1⟩, v2, e2, hv2⟩ := hr; simp only [e1, e2]; refine (same_row (partsL l) (partsL l) _ _ _ hv1 hv2 hpl hpl).mono ?_; rintro e w' ⟨rfl, hb⟩; rw [beq_self_eq_true]; exact Done.mk hb)
               | (obtain ⟨⟨v1, e1, hv1⟩, v2, e2, hv2⟩ := hr; simp only [e1, e2]; refine (same_row (refineL m a) (refineL m a) _ _ _ hv1 hv2 hrl hrl).mono ?_; rintro e w' ⟨rfl, hb⟩; rw [beq_self_eq_true]; exact Done.mk hb)
               | exact Done.same
          )
      (refine chain_rel (IsRow (refineL m a)) (IsRow.later _) (by rfl) ?_ ?_
       · intro act wx hS hr
         simp at hr
         have hx := hS.box.cells
         go_simp
         refine (refrefine_any m B c2 a _ hS.r2 hml2).mono ?_
         rintro e w' ⟨v', rfl, hv', hb⟩
         exact Done.rel hb hv'
      )
      iterate 3 first
        | (refine chain_skip (by rfl) (by rfl) ?_)
        | (apply chain_want (by rfl)
           · intro act wx hS hr
             simp at hr
             have hx := hS.box.cells
             go_simp
             (try go_ints)
             first
               | exact Done.same (v := cls _)
               | (obtain ⟨⟨v1, e1, hv1⟩, v2, e2, hv2⟩ := hr; simp only [e1, e2]; refine (bytes_row (headsL l) (headsL l) _ _ _ hv1 hv2 hhl hhl).mono ?_; rintro e w' ⟨rfl, hb⟩; rw [beq_self_eq_true]; exact Done.mk hb)
               | (obtain ⟨⟨v1, e1, hv1⟩, v2, e2, hv2⟩ := hr; simp only [e1, e2]; refine (same_row (partsL l) (partsL l) _ _ _ hv1 hv2 hpl hpl).mono ?_; rintro e w' ⟨rfl, hb⟩; rw [beq_self_eq_true]; exact Done.mk hb)
               | (obtain ⟨⟨v1, e1, hv1⟩, v2, e2, hv2⟩ := hr; simp only [e1, e2]; refine (same_row (refineL m a) (refineL m a) _ _ _ hv1 hv2 hrl hrl).mono ?_; rintro e w' ⟨rfl, hb⟩; rw [beq_self_eq_true]; exact Done.mk hb)
               | exact Done.same
          )
      show ∀ w', _ → _
      intro wz hz
      simp [Act.put]
      case hS => exact HS1.out
      intros
      go_wp2
      go_ret
      exact ⟨rfl, hz.below⟩
end Go.Proofs.YtjopngcjahdodaaDoor
