/- Counting: all of a list added to a tally; a tally's places. Walked. -/
import Derived.Test.YtpbbokdmoaadfaaM21
import Derived.Test.YtpbbokdmoaadfaaM18
import Derived.Test.YtpbbokdmoaadfaaM06
import Derived.Laws.BytesArg
import Derived.Lib.BufferRead
import Derived.Lib.SlBytesRow
import Derived.Shelf.Spec.SlicesGrow
namespace Go.Proofs.Ytpbbokdmoaadfaa
set_option maxHeartbeats 64000000
set_option maxRecDepth 1000000
set_option linter.all false
open Go Go.RowKit
theorem RcRow.kt {B : Nat} {w w' : World} {A : Option Addr} {l : List (Nat × Nat)} (h : RcRow w A l) (k : Kt B w w') : RcRow w' A l := h.keep fun b cur x => k.typ b cur _ (by decide) (by decide) x
theorem take_snoc {α : Type} {d : α} {l : List α} {k : Nat} (h : k < l.length) : l.take (k + 1) = l.take k ++ [l.getD k d] := by
 rw [List.take_add_one, List.getD_eq_getElem?_getD, List.getElem?_eq_getElem h]; rfl
theorem own_kept {w w' : World} {b1 b2 s1 s2 n1 n2 : Nat} {e1 e2 : TypeId} {v u : Value} {xs ys : List Value} (h : w.ownsRow b1 e1 s1 v n1 xs) (k : w.ownsRow b2 e2 s2 u n2 ys) (hne : e2 ≠ e1) (hg : w.grownBy w' u.ownBlock) : w'.ownsRow b1 e1 s1 v n1 xs := by
 obtain ⟨h0, h1 | ⟨g, cap, cur, hv, hb, hgg, hr⟩⟩ := h
 ·exact ⟨h0, .inl h1⟩
 ·have hk : Blk w g cur e1 := hgg
  have hn := own_typedU k hk hne
  exact ⟨h0, .inr ⟨g, cap, cur, hv, hb, (hg.block g hk.lt (fun e => hn g e.symm rfl)).trans hgg, hr⟩⟩
theorem TyS.grown {B tb first : Nat} {v : Value} {S : List UInt8} {w w' : World} (h : TyS B tb first v S w) {base : Nat} {r : Value} {l : List (Nat × Nat)} (k : OwnR w base r l) (hg : w.grownBy w' r.ownBlock) : TyS B tb first v S w' :=
 ⟨(hg.block tb h.blk.lt (fun e => own_typedU k h.blk (by decide) tb e.symm rfl)).trans h.blk, h.low, own_kept h.own k (by decide) hg⟩
def AlL (B tb first : Nat) (S : List UInt8) (A : Option Addr) (L : List (Nat × Nat)) (w0 : World) (x : Value) (w : World) : Prop :=
 ∃ (k : Nat) (v : Value), k <= L.length /\ x = .int .i64 (k : Int) /\ TyS B tb first v (tyAll first S (L.take k)) w /\ Kt B w0 w /\ RcRow w A L
theorem caddAll_any (B tb first n : Nat) (S : List UInt8) (v vl : Value) (L : List (Nat × Nat)) (w : World) (hT : TyS B tb first v S w) (hB : B <= w.heap.size) (hL : IsR w vl L) (hf : first <= 1000) (hn : n <= 1000) (hS : first + S.length <= n \/ S = []) (hp : ∀ p ∈ L, first <= p.1 /\ p.1 < n /\ p.2 <= 1000) (hl : L.length <= 1000000) :
 Calls Try.prog 83 #[.pointer (some ⟨tb, 0, none⟩), vl] w (AddP B tb first (tyAll first S L) w) := by
 obtain ⟨A, c, rfl, hlc, hr⟩ := hL
 have HS0 : Hid (AlL B tb first S A L w (.int .i64 0) w) := ⟨0, v, Nat.zero_le _, rfl, by rw [List.take_zero]; exact hT, .refl hB, hr⟩
 have HP : Hid (∀ k, k < L.length -> first <= (L.getD k (0, 0)).1 /\ (L.getD k (0, 0)).1 < n /\ (L.getD k (0, 0)).2 <= 1000) := fun k hk => hp _ (by rw [List.getD_eq_getElem?_getD, List.getElem?_eq_getElem hk]; exact List.getElem_mem _)
 have HRC : Hid (∀ k, (tyAll first S (L.take k)).length <= 1000000) := fun k => by
  rcases hS with hS | hS
  ·have := tyAll_reach (L := L.take k) hS (fun p h => ⟨(hp p (List.mem_of_mem_take h)).1, (hp p (List.mem_of_mem_take h)).2.1⟩); omega
  ·subst hS
   cases hk : L.take k with
   | nil => exact Nat.zero_le _
   | cons r R =>
    have hr := hp r (List.mem_of_mem_take (i := k) (by rw [hk]; simp))
    have := tyAll_reach (first := first) (n := n) (L := L.take k) (S := []) (by simp; omega) (fun p h => ⟨(hp p (List.mem_of_mem_take h)).1, (hp p (List.mem_of_mem_take h)).2.1⟩)
    rw [hk] at this; omega
 have hlz : (L.length : Int) <= 1000000 := by omega
 clear hT hr hp hS hlc
 go_enter Try.func83, Try.ntmps83
 go_wp2
 go_loopw [8] (AlL B tb first S A L w) (fun x _ => L.length - (intOf x).toNat)
 case atStart => exact HS0.out
 case round =>
  obtain ⟨k, v, hk, rfl, hty, hkt, hr⟩ := hrel
  have HTY := Lib.hid hty
  have HKT := Lib.hid hkt
  have HR := Lib.hid hr
  clear hty hkt hr HS0
  by_cases hlt : k < L.length
  ·have hltz : (k : Int) < (L.length : Int) := by omega
   obtain ⟨b, off, hA, hblt, hc⟩ := HR.out.two (fun e => by rw [e] at hlt; exact absurd hlt (Nat.not_lt_zero _))
   obtain ⟨c0, c1⟩ := hc k hlt
   have HPK := Lib.hid (HP.out k hlt)
   have HN : Hid (tyAll first S (L.take (k + 1)) = if (L.getD k (0, 0)).2 = 0 then tyAll first S (L.take k) else tyAdd first (tyAll first S (L.take k)) (L.getD k (0, 0)).1 (L.getD k (0, 0)).2) := by
    unfold Hid; rw [take_snoc (d := (0, 0)) hlt, tyAll_snoc]
   generalize (L.getD k (0, 0)).1 = p at *
   generalize (L.getD k (0, 0)).2 = q at *
   clear hc
   subst hA
   have hb3 := (Below.refl wr.heap.size wr).alloc (Nat.le_refl _) (.cells #[.int .i64 (p : Int), .int .i64 (q : Int)] 92)
   have HTY3 := Lib.hid (HTY.out.later hb3)
   have HKT3 := Lib.hid (HKT.out.trans (.of hb3 (Nat.le_trans hB HKT.out.bel.size)))
   have HR3 := Lib.hid (HR.out.later hb3)
   have HX3 := Lib.hid (Blk.new wr #[.int .i64 (p : Int), .int .i64 (q : Int)] 92)
   clear hb3 HTY HKT HR
   go_upto_region 3 with (fail)
   clear c0 c1
   generalize wr.alloc (.cells #[.int .i64 (p : Int), .int .i64 (q : Int)] 92) = w3 at *
   generalize wr.heap.size = bx at *
   have e0 := HX3.out.cell 0
   have e1 := HX3.out.cell 1
   simp at e0 e1
   have HC := Lib.hid (cadd_any B tb first p q (tyAll first S (L.take k)) v w3 HTY3.out (Nat.le_trans hB HKT3.out.bel.size) HPK.out.1 (by have := HPK.out.2.1; omega) (by omega) HPK.out.2.2 (HRC.out k))
   clear HX3
   go_wp2_with fail
   refine HC.out.mono ?_; rintro e w4 ⟨v4, rfl, hty, hkt⟩
   have HTY4 : Hid (TyS B tb first v4 (tyAll first S (L.take (k + 1))) w4) := by unfold Hid; rw [HN.out]; exact hty
   have HKT4 := Lib.hid (HKT3.out.trans hkt)
   have HR4 := Lib.hid (HR3.out.kt hkt)
   clear hty hkt HC e0 e1 HKT3 HTY3 HR3
   go_wp2
   go_roundw
   case rel => exact ⟨k + 1, v4, by omega, by go_num, HTY4.out, HKT4.out, HR4.out⟩
   case measure => simp [intOf]; omega
  ·obtain rfl : k = L.length := by omega
   have hlast : ¬ ((L.length : Nat) : Int) < (L.length : Int) := by omega
   go_wp2
   go_end0
   exact ⟨v, rfl, by rw [<- List.take_length (l := L)]; exact HTY.out, HKT.out⟩
def CplL (B tb first : Nat) (v : Value) (S : List UInt8) (w0 : World) (x r : Value) (w : World) : Prop :=
 ∃ k : Nat, k <= S.length /\ x = .int .i64 (k : Int) /\ TyS B tb first v S w /\ Below w0.heap.size w0 w /\ OwnR w w0.heap.size r (plF (first + k) (tyF first S))
theorem cplaces_any (B tb first : Nat) (S : List UInt8) (v : Value) (w : World) (hT : TyS B tb first v S w) (hf : first <= 1000) (hl : S.length <= 1000) :
 Calls Try.prog 77 #[.pointer (some ⟨tb, 0, none⟩)] w (fun e w' => ∃ r, e = .returned r /\ OwnR w' w.heap.size r (plF (first + S.length) (tyF first S)) /\ Below w.heap.size w w') := by
 have HS0 : Hid (CplL B tb first v S w (.int .i64 0) (.slice none 0 0) w) := ⟨0, Nat.zero_le _, rfl, hT, Below.refl _ _, by rw [Nat.add_zero, plF_ty_zero]; exact OwnR.nil _ _⟩
 have hlz : (S.length : Int) <= 1000 := by omega
 have hfz : (first : Int) <= 1000 := by omega
 obtain ⟨A7, c7, hv7, hr7⟩ : ∃ A c, v = .slice A S.length c /\ S.length <= c := by
  obtain ⟨_, ⟨hv, hn⟩ | ⟨g, cap, cu, hv, _, hgg, hc, _⟩⟩ := hT.own
  ·rw [nats_length] at hn; exact ⟨none, 0, by rw [hv, hn], by omega⟩
  ·rw [nats_length] at hv hc; exact ⟨_, cap, hv, hc⟩
 subst hv7
 have c1 := HS0.out
 obtain ⟨_, _, _, hty0, _⟩ := c1
 have c1 := hty0.blk.cell 1
 simp at c1
 clear hT hr7 hty0
 go_enter Try.func77, Try.ntmps77
 go_wp2
 clear c1
 go_loopw [11, 3] (CplL B tb first (.slice A7 S.length c7) S w) (fun x _ _ => S.length - (intOf x).toNat)
 case atStart => exact HS0.out
 case round =>
  obtain ⟨k, hk, rfl, hty, hbel, hown⟩ := hrel
  have HTY := Lib.hid hty
  have HB := Lib.hid hbel
  have HO := Lib.hid hown
  clear hty hbel hown HS0
  by_cases hlt : k < S.length
  ·have hltz : (k : Int) < (S.length : Int) := by omega
   obtain ⟨g, cap, cur, hvv, hbg, hblk, hcl, hcm, -, -⟩ := own8_blk HTY.out.own (fun e => by rw [e] at hlt; exact absurd hlt (Nat.not_lt_zero _))
   obtain ⟨rfl, -, rfl⟩ := Value.slice.inj hvv
   have c2 := (own8_set HTY.out.own k hlt 0).2.2.1
   have c0 := HTY.out.blk.cell 0
   simp at c0
   have HN : Hid (plF (first + (k + 1)) (tyF first S) = plF (first + k) (tyF first S) ++ if (S.getD k 0).toNat = 0 then [] else [(first + k, (S.getD k 0).toNat)]) := plF_ty_step
   have hy2 : (S.getD k 0).toNat < 256 := (S.getD k 0).toNat_lt
   generalize (S.getD k 0).toNat = y at *
   clear hblk hcl hcm hbg hvv
   by_cases hy : y = 0
   ·subst hy
    have hz : ¬ ((0 : Nat) : Int) > 0 := by omega
    rw [if_pos rfl, List.append_nil] at HN
    go_wp2
    go_roundw
    case rel => exact ⟨k + 1, by omega, by go_num, HTY.out, HB.out, by rw [HN.out]; exact HO.out⟩
    case measure => simp [intOf]; omega
   ·have hz : (y : Int) > 0 := by omega
    rw [if_neg hy] at HN
    have HLEN : Hid ((plF (first + k) (tyF first S)).length < 1073741824) := by
     have := plF_length (n := first + k) (F := tyF first S); unfold Hid; omega
    obtain ⟨pk, hpk⟩ : ∃ pk : Nat, pk = first + k := ⟨_, rfl⟩
    have hpkz : (first : Int) + (k : Int) = (pk : Int) := by omega
    rw [<- hpk] at HN HO HLEN
    have hb3 := (Below.refl wr.heap.size wr).alloc (Nat.le_refl _) (.cells #[.int .i64 (pk : Int), .int .i64 (y : Int)] 92)
    have HTY3 := Lib.hid (HTY.out.later hb3)
    have HB3 := Lib.hid (HB.out.trans (hb3.mono HB.out.size))
    have HO3 := Lib.hid (HO.out.later hb3)
    have HX3 : Hid (Blk (wr.alloc (.cells #[.int .i64 (pk : Int), .int .i64 (y : Int)] 92)) wr.heap.size (rcC (pk, y)) 92) := Blk.new wr _ _
    have hlow := HB3.out.size
    clear hb3 HTY HB HO hpk
    go_wp2_with (at_builtin; refine wpList_append_rc rfl _ _ rfl w.heap.size _ (plF pk (tyF first S)) rfl HO3.out _ (pk, y) rfl HX3.out HLEN.out hlow ?_; intro v' w6 h1 h2; rw [<- HN.out] at h1; have HO6 := Lib.hid h1; have HB6 := Lib.hid ((Below.refl w.heap.size _).grown h2 hlow (fun k hk => (World.ownsRow.lt HO3.out k hk).1)); have HTY6 := Lib.hid (HTY3.out.grown HO3.out h2); clear h1 h2)
    have HBB := Lib.hid (HB3.out.trans HB6.out)
    clear HTY3 HB3 HO3 HX3 HB6
    go_wp2
    go_roundw
    case rel => exact ⟨k + 1, by omega, by go_num, HTY6.out, HBB.out, HO6.out⟩
    case measure => simp [intOf]; omega
  ·obtain rfl : k = S.length := by omega
   have hlast : ¬ ((S.length : Nat) : Int) < (S.length : Int) := by omega
   go_wp2
   go_ret
   exact ⟨_, rfl, HO.out, HB.out⟩
end Go.Proofs.Ytpbbokdmoaadfaa
namespace Go.Proofs.Ytpbbokdmoaadfaa
set_option maxHeartbeats 64000000
set_option maxRecDepth 1000000
set_option linter.all false
open Go Go.RowKit
theorem conv_word {W : List UInt8} {v : Value} {w : World} (h : IsW W v w) : (convert 25 9 v).run Try.prog w = .ok (.string (bs W)) w := by
 rcases h with ⟨rfl, rfl⟩ | ⟨b, off, cap, rfl, h2, h5, h3, h4⟩
 ·exact Lib.run_convert_nil_bytes w 25 9 5 0 Try.underlying25 Try.underlying5 Try.underlying9
 ·refine Lib.run_convert_whole w 25 5 9 Try.underlying25 Try.underlying5 Try.underlying9 b off (bs W) (fun i hi => ?_) cap
  rw [bs_size] at hi
  rw [h4 i hi, bs_get]
  congr 3
  rw [List.getD_eq_getElem?_getD, List.getElem?_eq_getElem hi]; rfl
theorem At10.later {w w' : World} {b o : Nat} {x : Nd} (h : At10 w b o x) (hb : Below w.heap.size w w') : At10 w' b o x := by
 obtain ⟨g0, g1, g2, g3, g4, g5, g6, g7, g8, g9⟩ := h
 have k : ∀ p v, w.cell? p = some v -> w'.cell? p = some v := fun p v hc => (hb.cell (World.block_lt_of_cell? w p hc)).trans hc
 exact ⟨k _ _ g0, k _ _ g1, k _ _ g2, k _ _ g3, k _ _ g4, k _ _ g5, k _ _ g6, k _ _ g7, k _ _ g8, k _ _ g9⟩
def lfN (n : Nd) : Nat := if n.kind = 2 then 1 else if n.kind = 3 then n.text.length else 0
def lfOk (n : Nd) (R : Wd) : Bool := if n.kind = 1 then true else if n.kind = 2 then decide (R ≠ [] /\ n.cls.getLsbD (R.getD 0 0).toNat = true) else if n.kind = 3 then decide (n.text.length <= R.length /\ R.take n.text.length = n.text) else false
structure LfS (w0 : World) (b o : Nat) (n : Nd) (R : Wd) (u : Value) (w : World) : Prop where
 bel : Below w0.heap.size w0 w
 at_ : At10 w b o n
 wd : IsW R u w
theorem LfS.later {w0 w w' : World} {b o : Nat} {n : Nd} {R : Wd} {u : Value} (h : LfS w0 b o n R u w) (hb : Below w.heap.size w w') : LfS w0 b o n R u w' := ⟨h.bel.trans (hb.mono h.bel.size), h.at_.later hb, h.wd.later hb⟩
theorem IsW.taken {W : Wd} {A : Option Addr} {cap : Nat} {w : World} (h : IsW W (.slice A W.length cap) w) {k : Nat} (hk : k <= W.length) : IsW (W.take k) (.slice A k cap) w := by
 have hl : (W.take k).length = k := by rw [List.length_take]; omega
 rcases h with ⟨h1, h2⟩ | ⟨b, off, cap', h1, h2, h5, h3, h4⟩
 ·have h1' := Value.slice.inj h1
  obtain ⟨rfl, -, rfl⟩ := h1'
  subst h2
  have : k = 0 := by simpa using hk
  subst this
  exact .inl ⟨rfl, rfl⟩
 ·obtain ⟨rfl, -, rfl⟩ := Value.slice.inj h1
  refine .inr ⟨b, off, cap, by rw [hl], by rw [hl]; omega, by rw [hl]; omega, h3, fun i hi => ?_⟩
  rw [hl] at hi
  rw [h4 i (by omega), List.getD_eq_getElem?_getD, List.getD_eq_getElem?_getD, List.getElem?_take_of_lt hi]
theorem IsW.dropped {W : Wd} {b off cap : Nat} {w : World} (h : IsW W (.slice (some ⟨b, off, none⟩) W.length cap) w) {k : Nat} (hk : k <= W.length) : IsW (W.drop k) (.slice (some ⟨b, off + k, none⟩) (W.length - k) (cap - k)) w := by
 have hl : (W.drop k).length = W.length - k := List.length_drop
 rcases h with ⟨h1, h2⟩ | ⟨b', off', cap', h1, h2, h5, h3, h4⟩
 ·cases h1
 ·simp only [Value.slice.injEq, Option.some.injEq, Addr.mk.injEq, and_true, true_and] at h1
  obtain ⟨⟨rfl, rfl⟩, rfl⟩ := h1
  refine .inr ⟨b, off + k, cap - k, by rw [hl], by rw [hl]; omega, by rw [hl]; omega, h3, fun i hi => ?_⟩
  rw [hl] at hi
  have := h4 (k + i) (by omega)
  rw [show off + k + i = off + (k + i) by omega, this, List.getD_eq_getElem?_getD, List.getD_eq_getElem?_getD, List.getElem?_drop]
theorem beqd (a b : List UInt8) : (a == b) = decide (a = b) := by
 by_cases h : a = b
 ·rw [decide_eq_true h, beq_iff_eq]; exact h
 ·rw [decide_eq_false h, beq_eq_false_iff_ne]; exact h
theorem tl_bs (s : List UInt8) : (bs s).toList = s := by simp [bs]
theorem cleafLen_any (b o : Nat) (n : Nd) (R : Wd) (u : Value) (w : World) (hat : At10 w b o n) (hw : IsW R u w) (ht : n.text.length <= 1073741824) :
 Calls Try.prog 68 #[.pointer (some ⟨b, o, none⟩), u] w (Ans w (.tuple #[.int .i64 ((lfN n : Nat) : Int), .bool (lfOk n R)])) := by
 have HS0 : Hid (LfS w b o n R u w) := ⟨Below.refl _ _, hat, hw⟩
 obtain ⟨Au, cu, rfl, hcu⟩ := hw.len
 have HW := Lib.hid hw
 clear hw
 obtain ⟨kk, na, nb, nlo, nhi, ncls, ntext⟩ := n
 have g := hat
 unfold At10 at g
 simp only at g ht
 obtain ⟨g0, g1, g2, g3, g4, g5, g6, g7, g8, g9⟩ := g
 clear hat
 by_cases h1 : kk = 1
 ·subst h1
  go_enter Try.func68, Try.ntmps68
  go_wp2
  go_ret2
  exact ⟨rfl, HS0.out.bel⟩
 by_cases h2 : kk = 2
 ·subst h2
  have HHD : Hid (∀ (w' : World) (c : Nat), c < 256 -> Calls Try.prog 80 #[cls ncls, .int .u8 (c : Int)] w' (Ans w' (.bool (ncls.getLsbD c)))) := fun w' c hc => has_any ncls c hc w'
  unfold cls at HHD
  by_cases hR : R = []
  ·have e : lfOk ⟨2, na, nb, nlo, nhi, ncls, ntext⟩ R = false := by unfold lfOk; simp [hR]
   rw [e]
   have hl : R.length = 0 := by rw [hR]; rfl
   have hz : ¬ ((R.length : Nat) : Int) > 0 := by omega
   have hd : decide (((R.length : Nat) : Int) > 0) = false := decide_eq_false hz
   have hd2 : decide (0 < R.length) = false := decide_eq_false (by omega)
   have hd3 : decide (((R.length : Nat) : Int) <= 0) = true := decide_eq_true (by omega)
   clear e hR h1 hcu hl
   have HWL := HS0
   generalize R.length = rl at *
   go_enter Try.func68, Try.ntmps68
   go_upto_region 5 with (fail)
   refine wp_region_stable (S := (LfS w b o ⟨2, na, nb, nlo, nhi, ncls, ntext⟩ R (.slice Au rl cu))) (hSt := fun _ _ h hb => h.later hb) (plan := [[(1, none)], [(15, some 0)], [(16, some 1)], [(17, some 2)], [(0, none)], [(19, some 4)], [(20, some 5)], [(21, some 6)], [(1, none)], [(23, some 8)], [(24, some 9)], [(22, some 7), (25, some 10)], [(18, some 3), (26, some 11)], [], [(27, some 12)]]) (by kernel_rfl) (by kernel_rfl) (by kernel_rfl) ?hS ?_
   rotate_left
   iterate 15 first
    | (refine chain_skip (by rfl) (by rfl) ?_)
    | (apply chain_want (by rfl)
       ·intro act wx hS hr
        simp at hr
        go_simp
        (try go_ints)
        first
         | exact Done.same
      )
   show ∀ w', _ -> _
   intro w9 hw9
   simp [Act.put]
   case hS => exact HS0.out
   go_wp2
   go_ret2
   exact ⟨rfl, hw9.bel⟩
  ·have hl : 0 < R.length := List.length_pos_iff.2 hR
   have hz : ((R.length : Nat) : Int) > 0 := by omega
   have hd : decide (((R.length : Nat) : Int) > 0) = true := decide_eq_true hz
   have hd2 : decide (0 < R.length) = true := decide_eq_true hl
   obtain ⟨b8, o8, c8, hv8, k2, k5, k3, k4⟩ : ∃ b off cap, Value.slice Au R.length cu = .slice (some ⟨b, off, none⟩) R.length cap /\ R.length <= cap /\ R.length <= 1073741824 /\ b < w.heap.size /\ ∀ i, i < R.length -> w.cell? ⟨b, off + i, none⟩ = some (.int .u8 (((R.getD i 0).toNat : Nat) : Int)) := by
    rcases HW.out with ⟨h1, h2⟩ | h
    ·exact absurd h2 hR
    ·exact h
   obtain ⟨rfl, -, rfl⟩ := Value.slice.inj hv8
   have HCL : Hid (∀ w', LfS w b o ⟨2, na, nb, nlo, nhi, ncls, ntext⟩ R (.slice (some ⟨b8, o8, none⟩) R.length cu) w' -> w'.cell? ⟨b8, o8, none⟩ = some (.int .u8 (((R.getD 0 0).toNat : Nat) : Int))) := fun w' h => by
    rcases h.wd with ⟨h1, h2⟩ | ⟨b', off', cap', h1, h2, h5, h3, h4⟩
    ·cases h1
    ·simp only [Value.slice.injEq, Option.some.injEq, Addr.mk.injEq, and_true, true_and] at h1
     obtain ⟨⟨rfl, rfl⟩, rfl⟩ := h1
     have := h4 0 hl
     rwa [Nat.add_zero] at this
   have HX : Hid (lfOk ⟨2, na, nb, nlo, nhi, ncls, ntext⟩ R = ncls.getLsbD (R.getD 0 0).toNat) := by
    unfold Hid lfOk
    simp [hR]
   rw [HX.out]
   have hy := (R.getD 0 0).toNat_lt
   have HH1 := Lib.hid (fun w' => HHD.out w' (R.getD 0 0).toNat hy)
   generalize (R.getD 0 0).toNat = y at *
   generalize ncls.getLsbD y = r at *
   clear hR h1 hcu hv8 k2 k5 k3 k4 HX HHD hy
   go_enter Try.func68, Try.ntmps68
   go_upto_region 5 with (fail)
   clear g0 g1 g2 g3 g4 g5 g6 g7 g8 g9
   refine wp_region_stable (S := (LfS w b o ⟨2, na, nb, nlo, nhi, ncls, ntext⟩ R (.slice (some ⟨b8, o8, none⟩) R.length cu))) (hSt := fun _ _ h hb => h.later hb) (plan := [[(1, none)], [(15, some 0)], [(16, some 1)], [(17, some 2)], [(0, none)], [(19, some 4)], [(20, some 5)], [(21, some 6)], [(1, none)], [(23, some 8)], [(24, some 9)], [(22, some 7), (25, some 10)], [(18, some 3), (26, some 11)], [], [(27, some 12)]]) (by kernel_rfl) (by kernel_rfl) (by kernel_rfl) ?hS ?_
   rotate_left
   iterate 15 first
    | (refine chain_skip (by rfl) (by rfl) ?_)
    | (apply chain_want (by rfl)
       ·intro act wx hS hr
        simp at hr
        have g := hS.at_
        unfold At10 at g
        simp only at g
        obtain ⟨g0, g1, g2, g3, g4, g5, g6, g7, g8, g9⟩ := g
        have hc := HCL.out _ hS
        go_simp
        (try go_ints)
        first
         | ((with_reducible refine (HH1.out _).mono ?_); rintro e w5 ⟨rfl, hb5⟩; exact Done.mk hb5)
         | exact Done.same
      )
   show ∀ w', _ -> _
   intro w9 hw9
   simp [Act.put]
   case hS => exact HS0.out
   go_wp2
   go_ret2
   exact ⟨rfl, hw9.bel⟩
 by_cases h3 : kk = 3
 ·subst h3
  have e1 : lfN ⟨3, na, nb, nlo, nhi, ncls, ntext⟩ = ntext.length := rfl
  have e2 : lfOk ⟨3, na, nb, nlo, nhi, ncls, ntext⟩ R = decide (ntext.length <= R.length /\ R.take ntext.length = ntext) := rfl
  rw [e1, e2]
  clear e1 e2 h1 h2
  by_cases hl : ntext.length <= R.length
  ·have hz : ((R.length : Nat) : Int) >= ((ntext.length : Nat) : Int) := by omega
   have hd : decide (((R.length : Nat) : Int) >= ((ntext.length : Nat) : Int)) = true := decide_eq_true hz
   have hd2 : decide (ntext.length <= R.length) = true := decide_eq_true hl
   have hlc : ((ntext.length : Nat) : Int) <= (cu : Int) := by omega
   have HT : Hid (∀ w', LfS w b o ⟨3, na, nb, nlo, nhi, ncls, ntext⟩ R (.slice Au R.length cu) w' -> IsW (R.take ntext.length) (.slice Au ntext.length cu) w') := fun w' h => h.wd.taken hl
   have HB : Hid (((bs (R.take ntext.length)).toList == (bs ntext).toList) = decide (ntext.length <= R.length /\ R.take ntext.length = ntext)) := by
    unfold Hid
    rw [tl_bs, tl_bs, beqd]
    by_cases h : R.take ntext.length = ntext
    ·rw [decide_eq_true h, decide_eq_true ⟨hl, h⟩]
    ·rw [decide_eq_false h, decide_eq_false (fun h' => h h'.2)]
   rw [<- HB.out]
   have hsz : (bs ntext).size = ntext.length := bs_size _
   generalize R.take ntext.length = Y at *
   clear HB hl
   go_enter Try.func68, Try.ntmps68
   go_upto_region 8 with (fail)
   clear g0 g1 g2 g3 g4 g5 g6 g7 g8 g9
   refine wp_region_stable (S := (LfS w b o ⟨3, na, nb, nlo, nhi, ncls, ntext⟩ R (.slice Au R.length cu))) (hSt := fun _ _ h hb => h.later hb) (plan := [[(6, none)], [(1, none)], [(36, some 1)], [(6, none)], [(37, some 2), (38, some 3)], [(39, some 4)], [(1, none)], [(6, none)], [(41, some 6), (42, some 7)], [(43, some 8)], [(0, none)], [(45, some 10)], [(46, some 11)], [(47, some 12)], [(44, some 9), (48, some 13)], [(40, some 5), (49, some 14)], [(35, some 0)], [(50, some 15)]]) (by kernel_rfl) (by kernel_rfl) (by kernel_rfl) ?hS ?_
   rotate_left
   iterate 18 first
    | (refine chain_skip (by rfl) (by rfl) ?_)
    | (apply chain_want (by rfl)
       ·intro act wx hS hr
        simp at hr
        have g := hS.at_
        unfold At10 at g
        simp only at g
        obtain ⟨g0, g1, g2, g3, g4, g5, g6, g7, g8, g9⟩ := g
        have hc := conv_word (HT.out _ hS)
        go_simp
        (try go_ints)
        first
         | exact Done.same
      )
   show ∀ w', _ -> _
   intro w9 hw9
   simp [Act.put]
   case hS => exact HS0.out
   go_wp2
   go_ret2
   exact ⟨rfl, hw9.bel⟩
  ·have hz : ¬ ((R.length : Nat) : Int) >= ((ntext.length : Nat) : Int) := by omega
   have hd : decide (((R.length : Nat) : Int) >= ((ntext.length : Nat) : Int)) = false := decide_eq_false hz
   have hd2 : decide (ntext.length <= R.length) = false := decide_eq_false hl
   rw [decide_eq_false (fun h : ntext.length <= R.length /\ _ => hl h.1)]
   have hsz : (bs ntext).size = ntext.length := bs_size _
   have hd3 : decide (((ntext.length : Nat) : Int) <= ((R.length : Nat) : Int)) = false := decide_eq_false (by omega)
   clear hl hz
   go_enter Try.func68, Try.ntmps68
   go_upto_region 8 with (fail)
   clear g0 g1 g2 g3 g4 g5 g6 g7 g8 g9
   refine wp_region_stable (S := (LfS w b o ⟨3, na, nb, nlo, nhi, ncls, ntext⟩ R (.slice Au R.length cu))) (hSt := fun _ _ h hb => h.later hb) (plan := [[(6, none)], [(1, none)], [(36, some 1)], [(6, none)], [(37, some 2), (38, some 3)], [(39, some 4)], [(1, none)], [(6, none)], [(41, some 6), (42, some 7)], [(43, some 8)], [(0, none)], [(45, some 10)], [(46, some 11)], [(47, some 12)], [(44, some 9), (48, some 13)], [(40, some 5), (49, some 14)], [(35, some 0)], [(50, some 15)]]) (by kernel_rfl) (by kernel_rfl) (by kernel_rfl) ?hS ?_
   rotate_left
   iterate 18 first
    | (refine chain_skip (by rfl) (by rfl) ?_)
    | (apply chain_want (by rfl)
       ·intro act wx hS hr
        simp at hr
        go_simp
        (try go_ints)
        first
         | exact Done.same
      )
   show ∀ w', _ -> _
   intro w9 hw9
   simp [Act.put]
   case hS => exact HS0.out
   go_wp2
   go_ret2
   exact ⟨rfl, hw9.bel⟩
 have e1 : lfN ⟨kk, na, nb, nlo, nhi, ncls, ntext⟩ = 0 := by unfold lfN; simp [h2, h3]
 have e2 : lfOk ⟨kk, na, nb, nlo, nhi, ncls, ntext⟩ R = false := by unfold lfOk; simp [h1, h2, h3]
 rw [e1, e2]
 have b1 : (kk == 1) = false := beq_eq_false_iff_ne.2 h1
 have b2 : (kk == 2) = false := beq_eq_false_iff_ne.2 h2
 have b3 : (kk == 3) = false := beq_eq_false_iff_ne.2 h3
 clear e1 e2 h1 h2 h3
 go_enter Try.func68, Try.ntmps68
 go_wp2
 go_ret2
 exact ⟨rfl, HS0.out.bel⟩
structure Rdb (rb : Nat) (A : Option Addr) (l : List Nd) (c : Nat) (uw : Value) (W : Wd) (m : Nat) (w : World) : Prop where
 blk : Blk w rb #[.slice A l.length c, uw, .map (some m)] 76
 row : NRow w A l
 wd : IsW W uw w
theorem Rdb.later {rb : Nat} {A : Option Addr} {l : List Nd} {c : Nat} {uw : Value} {W : Wd} {m : Nat} {w w' : World} (h : Rdb rb A l c uw W m w) (hb : Below w.heap.size w w') : Rdb rb A l c uw W m w' := ⟨h.blk.later hb, h.row.later hb, h.wd.later hb⟩
theorem Rdb.kc {rb : Nat} {A : Option Addr} {l : List Nd} {c : Nat} {uw : Value} {W : Wd} {m : Nat} {w w' : World} (h : Rdb rb A l c uw W m w) (k : Kc w.heap.size w w') : Rdb rb A l c uw W m w' := ⟨k.block _ h.blk.lt _ _ h.blk, k.nrow h.row, k.isW h.wd⟩
theorem NRow.at10 {w : World} {A : Option Addr} {l : List Nd} (h : NRow w A l) {i : Nat} (hi : i < l.length) : ∃ b o, A = some ⟨b, o, none⟩ /\ At10 w b (o + i * 10) (atN l i) := by
 obtain ⟨b, o, rfl, -, -⟩ := h i hi
 exact ⟨b, o, rfl, h.at hi rfl⟩
theorem addr_add (b off k : Nat) : (⟨b, off, none⟩ : Addr).add k = ⟨b, off + k, none⟩ := by unfold Addr.add; split <;> simp_all
theorem IsW.cut {W : Wd} {A : Option Addr} {cap : Nat} {w : World} (h : IsW W (.slice A W.length cap) w) {p : Nat} (hp : p <= W.length) : IsW (W.drop p) (.slice (if cap = p then A else Option.map (fun x => x.add p) A) (W.length - p) (cap - p)) w := by
 have hl : (W.drop p).length = W.length - p := List.length_drop
 rcases h with ⟨h1, h2⟩ | ⟨b, off, cap', h1, h2, h5, h3, h4⟩
 ·obtain ⟨rfl, -, rfl⟩ := Value.slice.inj h1
  subst h2
  have hp : p <= 0 := hp
  obtain rfl : p = 0 := by omega
  exact .inl ⟨rfl, rfl⟩
 ·obtain ⟨rfl, -, rfl⟩ := Value.slice.inj h1
  by_cases e : cap = p
  ·rw [if_pos e]
   refine .inr ⟨b, off, cap - p, by rw [hl], by rw [hl]; omega, by rw [hl]; omega, h3, fun i hi => ?_⟩
   rw [hl] at hi; omega
  ·rw [if_neg e]
   show IsW _ (.slice (some ((⟨b, off, none⟩ : Addr).add p)) _ _) w
   rw [addr_add]
   exact IsW.dropped (.inr ⟨b, off, cap, rfl, h2, h5, h3, h4⟩) hp
structure LeS (w0 : World) (rb : Nat) (A : Option Addr) (l : List Nd) (c : Nat) (uw : Value) (W : Wd) (m : Nat) (b o : Nat) (n : Nd) (Al : Option Addr) (L : List (Nat × Nat)) (r : Value) (M : List (Nat × Nat)) (w : World) : Prop where
 bel : Below w0.heap.size w0 w
 rd : Rdb rb A l c uw W m w
 at_ : At10 w b o n
 row : RcRow w Al L
 own : OwnR w w0.heap.size r M
theorem LeS.later {w0 w w' : World} {rb : Nat} {A : Option Addr} {l : List Nd} {c : Nat} {uw : Value} {W : Wd} {m b o : Nat} {n : Nd} {Al : Option Addr} {L : List (Nat × Nat)} {r : Value} {M : List (Nat × Nat)} (h : LeS w0 rb A l c uw W m b o n Al L r M w) (hb : Below w.heap.size w w') : LeS w0 rb A l c uw W m b o n Al L r M w' :=
 ⟨h.bel.trans (hb.mono h.bel.size), h.rd.later hb, h.at_.later hb, h.row.later hb, h.own.later hb⟩
theorem LeS.app {w0 w w' : World} {rb : Nat} {A : Option Addr} {l : List Nd} {c : Nat} {uw : Value} {W : Wd} {m b o : Nat} {n : Nd} {Al : Option Addr} {L : List (Nat × Nat)} {r r' : Value} {M M' : List (Nat × Nat)} (h0 : LeS w0 rb A l c uw W m b o n Al L (.slice none 0 0) [] w0) (h : LeS w0 rb A l c uw W m b o n Al L r M w) (hg : w.grownBy w' r.ownBlock) (ho : OwnR w' w0.heap.size r' M') : LeS w0 rb A l c uw W m b o n Al L r' M' w' := by
 have hB := h.bel.grown hg h.bel.size (fun k hk => (World.ownsRow.lt h.own k hk).1)
 exact ⟨hB, h0.rd.later hB, h0.at_.later hB, h0.row.later hB, ho⟩
structure LfB (w0 : World) (rb : Nat) (A : Option Addr) (l : List Nd) (c : Nat) (uw : Value) (W : Wd) (m : Nat) (b o : Nat) (n : Nd) (Al : Option Addr) (L : List (Nat × Nat)) (r : Value) (M : List (Nat × Nat)) (bx p q : Nat) (w : World) : Prop where
 s : LeS w0 rb A l c uw W m b o n Al L r M w
 x : Blk w bx #[.int .i64 (p : Int), .int .i64 (q : Int)] 92
theorem LfB.later {w0 w w' : World} {rb : Nat} {A : Option Addr} {l : List Nd} {c : Nat} {uw : Value} {W : Wd} {m b o : Nat} {n : Nd} {Al : Option Addr} {L : List (Nat × Nat)} {r : Value} {M : List (Nat × Nat)} {bx p q : Nat} (h : LfB w0 rb A l c uw W m b o n Al L r M bx p q w) (hb : Below w.heap.size w w') : LfB w0 rb A l c uw W m b o n Al L r M bx p q w' := ⟨h.s.later hb, h.x.later hb⟩
abbrev okL (n : Nd) (W : Wd) (j : Nat) : Prop := lfOk n (W.drop j) = true
def LeL (w0 : World) (rb : Nat) (A : Option Addr) (l : List Nd) (c : Nat) (uw : Value) (W : Wd) (m : Nat) (b o : Nat) (n : Nd) (Al : Option Addr) (L : List (Nat × Nat)) (x r : Value) (w : World) : Prop :=
 ∃ k : Nat, k <= L.length /\ x = .int .i64 (k : Int) /\ LeS w0 rb A l c uw W m b o n Al L r (lfL (lfN n) (okL n W) (L.take k)) w
def DrW (W : Wd) (p : Nat) (v : Value) (w : World) : Prop := IsW (W.drop p) v w
theorem DrW.later (W : Wd) (p : Nat) : ∀ v w w', DrW W p v w -> Below w.heap.size w w' -> DrW W p v w' := fun v w w' h hb => IsW.later h hb
theorem lfL_len {m : Nat} {ok : Nat -> Prop} [DecidablePred ok] {L : List (Nat × Nat)} : (lfL m ok L).length <= L.length := by unfold lfL; exact List.length_filterMap_le _ _
theorem cleaf_any (rb : Nat) (A : Option Addr) (l : List Nd) (c : Nat) (uw : Value) (W : Wd) (m b o : Nat) (n : Nd) (vl : Value) (L : List (Nat × Nat)) (w : World) (hr : Rdb rb A l c uw W m w) (hat : At10 w b o n) (hL : IsR w vl L) (hp : ∀ p ∈ L, p.1 <= W.length) (hl : L.length <= 1000000) (ht : n.text.length <= 1073741824) (hW : W.length <= 1000000) :
 Calls Try.prog 56 #[.pointer (some ⟨rb, 0, none⟩), .pointer (some ⟨b, o, none⟩), vl] w (fun e w' => ∃ r, e = .returned r /\ OwnR w' w.heap.size r (lfL (lfN n) (okL n W) L) /\ Below w.heap.size w w') := by
 obtain ⟨Al, cl, rfl, hlc, hrl⟩ := hL
 obtain ⟨Au, cu, rfl, hcu⟩ := hr.wd.len
 have HS0 : Hid (LeL w rb A l c (.slice Au W.length cu) W m b o n Al L (.int .i64 0) (.slice none 0 0) w) := ⟨0, Nat.zero_le _, rfl, Below.refl _ _, hr, hat, hrl, by rw [List.take_zero]; exact OwnR.nil _ _⟩
 have HZ : Hid (LeS w rb A l c (.slice Au W.length cu) W m b o n Al L (.slice none 0 0) [] w) := ⟨Below.refl _ _, hr, hat, hrl, OwnR.nil _ _⟩
 have HP : Hid (∀ k, k < L.length -> (L.getD k (0, 0)).1 <= W.length) := fun k hk => hp _ (by rw [List.getD_eq_getElem?_getD, List.getElem?_eq_getElem hk]; exact List.getElem_mem _)
 have HLF : Hid (∀ (w' : World) (R : Wd) (u : Value), At10 w' b o n -> IsW R u w' -> Calls Try.prog 68 #[.pointer (some ⟨b, o, none⟩), u] w' (Ans w' (.tuple #[.int .i64 ((lfN n : Nat) : Int), .bool (lfOk n R)]))) := fun w' R u h1 h2 => cleafLen_any b o n R u w' h1 h2 ht
 have hlz : (L.length : Int) <= 1000000 := by omega
 have hlf : lfN n <= 1073741824 := by unfold lfN; split; omega; split <;> omega
 clear hr hat hrl hp hlc
 go_enter Try.func56, Try.ntmps56
 go_wp2
 go_loopw [14, 7] (LeL w rb A l c (.slice Au W.length cu) W m b o n Al L) (fun x _ _ => L.length - (intOf x).toNat)
 case atStart => exact HS0.out
 case round =>
  obtain ⟨k, hk, rfl, hs⟩ := hrel
  have HS := Lib.hid hs
  clear hs HS0
  by_cases hlt : k < L.length
  ·have hltz : (k : Int) < (L.length : Int) := by omega
   obtain ⟨bl, ol, hA, hblt, hc⟩ := HS.out.row.two (fun e => by rw [e] at hlt; exact absurd hlt (Nat.not_lt_zero _))
   obtain ⟨c0, c1⟩ := hc k hlt
   have hpw := HP.out k hlt
   have HN : Hid (lfL (lfN n) (okL n W) (L.take (k + 1)) = lfL (lfN n) (okL n W) (L.take k) ++ if okL n W (L.getD k (0, 0)).1 then [((L.getD k (0, 0)).1 + lfN n, (L.getD k (0, 0)).2)] else []) := by
    unfold Hid; rw [take_snoc (d := (0, 0)) hlt, lfL_snoc]
   have HML : Hid ((lfL (lfN n) (okL n W) (L.take k)).length < 1073741824) := by
    have := lfL_len (m := lfN n) (ok := okL n W) (L := L.take k)
    rw [List.length_take] at this
    unfold Hid; omega
   generalize (L.getD k (0, 0)).1 = p at *
   generalize (L.getD k (0, 0)).2 = q at *
   generalize lfL (lfN n) (okL n W) (L.take k) = M at *
   clear hc
   subst hA
   have hb3 := (Below.refl wr.heap.size wr).alloc (Nat.le_refl _) (.cells #[.int .i64 (p : Int), .int .i64 (q : Int)] 92)
   obtain ⟨a7, c7, hv7, -⟩ := HS.out.own.isR
   subst hv7
   have HX3 : Hid (LfB w rb A l c (.slice Au W.length cu) W m b o n (some ⟨bl, ol, none⟩) L (.slice a7 M.length c7) M wr.heap.size p q (wr.alloc (.cells #[.int .i64 (p : Int), .int .i64 (q : Int)] 92))) := ⟨HS.out.later hb3, Blk.new wr _ _⟩
   clear hb3 HS
   have hpz : (p : Int) <= (W.length : Int) := by omega
   have hpc : (p : Int) <= (cu : Int) := by omega
   go_upto_region 5 with (fail)
   clear c0 c1
   generalize wr.alloc (.cells #[.int .i64 (p : Int), .int .i64 (q : Int)] 92) = w3 at *
   generalize wr.heap.size = bx at *
   refine wp_region_stable (S := (LfB w rb A l c (.slice Au W.length cu) W m b o n (some ⟨bl, ol, none⟩) L (.slice a7 M.length c7) M bx p q)) (hSt := fun _ _ h hb => h.later hb) (plan := [[(1, none)], [(0, none)], [(20, some 1)], [(21, some 2)], [(22, some 3)], [(9, none)], [(24, some 5)], [(23, some 4), (25, some 6)], [(19, some 0), (26, some 7)], [(27, some 8)], [(18, some 9)], [(18, some 9)], [(28, some 10)], [(29, some 11)]]) (by kernel_rfl) (by kernel_rfl) (by kernel_rfl) ?hS ?_
   rotate_left
   iterate 7 first
    | (refine chain_skip (by rfl) (by rfl) ?_)
    | (apply chain_want (by rfl)
       ·intro act wx hS hr
        simp at hr
        have r1 := hS.s.rd.blk.cell 1
        have x0 := hS.x.cell 0
        have x1 := hS.x.cell 1
        simp at r1 x0 x1
        go_simp
        (try go_ints)
        first
         | (obtain ⟨hr1, v, hr2, hv⟩ := hr; have hv : IsW (W.drop p) v wx := hv; simp only [hr1, hr2, Option.getD_some]; (with_reducible refine (HLF.out _ _ _ hS.s.at_ hv).mono ?_); rintro e w5 ⟨rfl, hb5⟩; exact Done.mk hb5)
         | exact Done.same
      )
   (refine chain_rel (DrW W p) (DrW.later W p) (by rfl) ?_ ?_
    ·intro act wx hS hr
     simp at hr
     have r1 := hS.s.rd.blk.cell 1
     have x0 := hS.x.cell 0
     have x1 := hS.x.cell 1
     simp at r1 x0 x1
     all_goals go_simp
     exact Done.rel (Below.refl _ _) (IsW.cut hS.s.rd.wd hpw)
   )
   iterate 6 first
    | (refine chain_skip (by rfl) (by rfl) ?_)
    | (apply chain_want (by rfl)
       ·intro act wx hS hr
        simp at hr
        have r1 := hS.s.rd.blk.cell 1
        have x0 := hS.x.cell 0
        have x1 := hS.x.cell 1
        simp at r1 x0 x1
        go_simp
        (try go_ints)
        first
         | (obtain ⟨hr1, v, hr2, hv⟩ := hr; have hv : IsW (W.drop p) v wx := hv; simp only [hr1, hr2, Option.getD_some]; (with_reducible refine (HLF.out _ _ _ hS.s.at_ hv).mono ?_); rintro e w5 ⟨rfl, hb5⟩; exact Done.mk hb5)
         | exact Done.same
      )
   show ∀ w', _ -> _
   intro w9 hw9
   simp [Act.put]
   case hS => exact HX3.out
   intro v26 hv26
   have HX9 := Lib.hid hw9
   clear hw9 HX3 hv26
   have HOK : Hid (okL n W p ↔ lfOk n (W.drop p) = true) := Iff.rfl
   have e0 := HX9.out.x.cell 0
   have e1 := HX9.out.x.cell 1
   simp at e0 e1
   cases hok : lfOk n (W.drop p) with
   | false =>
    have HN2 : Hid (lfL (lfN n) (okL n W) (L.take (k + 1)) = M) := by unfold Hid; rw [HN.out, if_neg (by rw [HOK.out, hok]; decide), List.append_nil]
    clear hok HOK HN
    go_wp2
    go_roundw
    case rel => exact ⟨k + 1, by omega, by go_num, by rw [HN2.out]; exact HX9.out.s⟩
    case measure => simp [intOf]; omega
   | true =>
    have HN2 : Hid (lfL (lfN n) (okL n W) (L.take (k + 1)) = M ++ [(p + lfN n, q)]) := by unfold Hid; rw [HN.out, if_pos (by rw [HOK.out, hok])]
    clear hok HOK HN
    obtain ⟨pl, hpl⟩ : ∃ pl, p + lfN n = pl := ⟨_, rfl⟩
    have hplz : (p : Int) + ((lfN n : Nat) : Int) = (pl : Int) := by omega
    rw [hpl] at HN2
    clear hpl
    have hb3 := (Below.refl w9.heap.size w9).alloc (Nat.le_refl _) (.cells #[.int .i64 (pl : Int), .int .i64 (q : Int)] 92)
    have HX10 := Lib.hid (HX9.out.s.later hb3)
    have HX11 : Hid (Blk (w9.alloc (.cells #[.int .i64 (pl : Int), .int .i64 (q : Int)] 92)) w9.heap.size (rcC (pl, q)) 92) := Blk.new w9 _ _
    have hlow := HX10.out.bel.size
    clear hb3 HX9
    go_wp2_with (at_builtin; refine wpList_append_rc rfl _ _ rfl w.heap.size _ M rfl HX10.out.own _ (pl, q) rfl HX11.out HML.out hlow ?_; intro v' w6 h1 h2; have HO6 := Lib.hid h1; have HS6 := Lib.hid (HZ.out.app HX10.out h2 h1); clear h1 h2)
    clear HX10 HX11
    go_wp2
    go_roundw
    case rel => exact ⟨k + 1, by omega, by go_num, by rw [HN2.out]; exact HS6.out⟩
    case measure => simp [intOf]; omega
  ·obtain rfl : k = L.length := by omega
   have hlast : ¬ ((L.length : Nat) : Int) < (L.length : Int) := by omega
   go_wp2
   go_ret
   exact ⟨_, rfl, by rw [<- List.take_length (l := L)]; exact HS.out.own, HS.out.bel⟩
def laysGrowR_ren : Go.Shelf.Ren := ⟨fun | 4 => 88 | n => n, fun | 0 => 0 | 3 => 3 | 4 => 4 | 9 => 9 | 20 => 20 | 22 => 78 | 25 => 92 | n => n, fun n => n⟩
theorem laysGrowR : Lays8.n4 Try.prog laysGrowR_ren := {
 mixed := by kernel_rfl,
 f4 := ⟨Try.f88.name, by kernel_rfl, Try.func88.trans (congrArg some (by kernel_rfl))⟩,
 t0 := Try.underlying0,
 a0 := Try.isAgg0,
 z0 := Try.sizeOf0,
 v0 := Try.zeroValue0,
 t3 := Try.underlying3,
 a3 := Try.isAgg3,
 z3 := Try.sizeOf3,
 v3 := Try.zeroValue3,
 t4 := Try.underlying4,
 a4 := Try.isAgg4,
 z4 := Try.sizeOf4,
 v4 := Try.zeroValue4,
 t9 := Try.underlying9,
 a9 := Try.isAgg9,
 z9 := Try.sizeOf9,
 v9 := Try.zeroValue9,
 t20 := Try.underlying20,
 a20 := Try.isAgg20,
 z20 := Try.sizeOf20,
 v20 := Try.zeroValue20,
 t22 := Try.underlying78,
 a22 := Try.isAgg78,
 z22 := Try.sizeOf78,
 v22 := Try.zeroValue78 }
theorem cgrow_any (n : Nat) (h0 : 0 < n) (hn : n <= 1000000) (w : World) : Calls Try.prog 88 #[.slice none 0 0, .int .i64 (n : Int)] w (fun e w' => ∃ g c, e = .returned (.slice (some ⟨g, 0, none⟩) 0 c) /\ OwnR w' w.heap.size (.slice (some ⟨g, 0, none⟩) 0 c) [] /\ Below w.heap.size w w') := by
 obtain ⟨ib, hib, hz0, hz1, hz2⟩ := info_parts infoRc
 have h := Any8.slices_Grow_grow laysGrowR ib _ hib hz0 (by rw [hz1]; decide) none 0 0 n [] w (Nat.le_refl _) (by omega) (by rw [hz2]; omega) (by omega) (by simp) (fun _ => rfl) (fun a ha => by cases ha)
 refine h.mono ?_
 rintro e w' ⟨rfl, rfl⟩
 have hb : ∀ o, Below w.heap.size w (w.drew.alloc o) := fun o => by
  have h := (Below.refl w.heap.size w.drew).alloc (Nat.le_refl w.heap.size) o
  exact ⟨h.os, h.tape, h.output, h.size, h.block⟩
 refine ⟨w.heap.size, _, rfl, ⟨rfl, .inr ⟨w.heap.size, _, _, rfl, Nat.le_refl _, heap_alloc_new w.drew _, Nat.zero_le _, grownCap_le_maxLen w (0 + n) 0 92 (by unfold maxLen; omega), ?_, by simp; rfl⟩⟩, hb _⟩
 have hge := grownCap_ge w (0 + n) 0 92
 simp only [Array.size_append, List.size_toArray, size_zeroCells, List.length_nil]
 show 0 + (0 + n - 0) * 2 + (grownCap w (0 + n) 0 92 - (0 + n)) * 2 = grownCap w (0 + n) 0 92 * 2
 omega
theorem RcRow.news {w : World} {ad : Addr} {l : List (Nat × Nat)} (h : RcRow w (some ad) l) : ∀ (j : Nat) (u : Value), (flatR l)[j]? = some u -> w.cell? (ad.add j) = some u := by
 intro j u hu
 have hj : j < l.length * 2 := by rw [<- flatR_length]; exact (List.getElem?_eq_some_iff.1 hu).1
 obtain ⟨b', off', cur, h1, h2, h3⟩ := h (fun e => by subst e; simp at hj)
 cases h1
 have hd : j / 2 < l.length := by omega
 have k := h3 (j / 2) hd (j % 2) (Nat.mod_lt _ (by decide))
 rw [<- flatR_get l (j / 2) (j % 2) hd (Nat.mod_lt _ (by decide)), show j / 2 * 2 + j % 2 = j by omega, hu] at k
 rw [addr_add, h2.cell, <- k]; congr 1; omega
theorem wp_append_rl {w : World} {o : Oper} {a : Act} {K : Act -> World -> Prop} {Q : Exit -> Act -> World -> Prop} (s x : Operand)
 (ho : o.op = .call { callee := .builtin .append, args := #[s, x], argTypes := #[78, 78] })
 (base : Nat) (v : Value) (l m : List (Nat × Nat)) (hs : a.eval s = v) (hown : OwnR w base v l)
 (ad : Addr) (c : Nat) (hx : a.eval x = .slice (some ad) m.length c) (hrow : RcRow w (some ad) m) (hlen : l.length + m.length < 1073741824) (hbase : base <= w.heap.size)
 (h : ∀ v' w', OwnR w' base v' (l ++ m) -> w.grownBy w' v.ownBlock -> K (a.put o.dst v') w') : o.wp Try.prog a w K Q := by
 obtain ⟨ib, hib, hz0, hz1, hz2⟩ := info_parts infoRc
 obtain ⟨v', w', hr, h2, h3, _⟩ := run_append_own (P := Try.prog) w base 78 o.type 92 ib _ 2 16 Try.underlying78 hib hz0 hz1 hz2 rfl (by decide) v l.length (flatR l) hown ad m.length c (flatR m) (flatR_length m) hrow.news (flatR_ones m) (by unfold maxLen; omega) (by omega) hbase
 unfold Oper.wp execOp
 simp only [ho, resolve, invoke, builtin, Sem.run_bind, Sem.run_pure, Result.andThen_ok, List.map_toArray, List.map_cons, List.map_nil, hs, hx, hr]
 exact h v' w' (by unfold OwnR; rw [List.length_append, flatR_append]; exact h2) h3
theorem wpList_append_rl {w : World} {ops : Array Oper} {rest : List Oper} {o : Oper} {a : Act} {Q : Exit -> Act -> World -> Prop} (hgd : o.guard = none) (s x : Operand)
 (ho : o.op = .call { callee := .builtin .append, args := #[s, x], argTypes := #[78, 78] })
 (base : Nat) (v : Value) (l m : List (Nat × Nat)) (hs : a.eval s = v) (hown : OwnR w base v l)
 (ad : Addr) (c : Nat) (hx : a.eval x = .slice (some ad) m.length c) (hrow : RcRow w (some ad) m) (hlen : l.length + m.length < 1073741824) (hbase : base <= w.heap.size)
 (h : ∀ v' w', OwnR w' base v' (l ++ m) -> w.grownBy w' v.ownBlock -> wpList Try.prog ops Q rest (a.put o.dst v') w') : wpList Try.prog ops Q (o :: rest) a w :=
 wpList_plain hgd fun K hK => wp_append_rl s x ho base v l m hs hown ad c hx hrow hlen hbase fun v' w' h1 h2 => hK _ _ (h v' w' h1 h2)
def RcP (w : World) (l : List (Nat × Nat)) (e : Ending) (w' : World) : Prop := ∃ r, e = .returned r /\ OwnR w' w.heap.size r l /\ Below w.heap.size w w'
def RwR (w : World) (b : Nat) (R : List (List (Nat × Nat))) : Prop := b < w.heap.size /\ ∀ k, k < R.length -> ∃ g o c, w.cell? ⟨b, k, none⟩ = some (.slice (some ⟨g, o, none⟩) (R.getD k []).length c) /\ RcRow w (some ⟨g, o, none⟩) (R.getD k [])
theorem RwR.later {w w' : World} {b : Nat} {R : List (List (Nat × Nat))} (h : RwR w b R) (hb : Below w.heap.size w w') : RwR w' b R := ⟨Nat.lt_of_lt_of_le h.1 hb.size, fun k hk => by
 obtain ⟨g, o, c, h1, h2⟩ := h.2 k hk
 exact ⟨g, o, c, (hb.cell (p := ⟨b, k, none⟩) h.1).trans h1, h2.later hb⟩⟩
def CtN (w0 : World) (R : List (List (Nat × Nat))) (s i : Value) (w : World) : Prop := ∃ k : Nat, k <= R.length /\ i = .int .i64 (k : Int) /\ s = .int .i64 ((R.take k).flatten.length : Int) /\ w = w0
structure CtS (w0 : World) (b : Nat) (R : List (List (Nat × Nat))) (L : List (Nat × Nat)) (v : Value) (w : World) : Prop where
 bel : Below w0.heap.size w0 w
 own : OwnR w w0.heap.size v L
 rows : RwR w b R
def CtL (w0 : World) (b : Nat) (R : List (List (Nat × Nat))) (v i : Value) (w : World) : Prop := ∃ k : Nat, k <= R.length /\ i = .int .i64 (k : Int) /\ CtS w0 b R (R.take k).flatten v w
theorem flatC_snoc {α : Type} {R : List (List α)} {k : Nat} (h : k < R.length) : (R.take (k + 1)).flatten = (R.take k).flatten ++ R.getD k [] := by
 rw [List.getD_eq_getElem?_getD, List.getElem?_eq_getElem h, List.take_add_one, List.getElem?_eq_getElem h, List.flatten_append]; simp [Option.toList]
theorem flatC_le {α : Type} {R : List (List α)} (k : Nat) : (R.take k).flatten.length <= R.flatten.length := by
 conv => rhs; rw [<- List.take_append_drop k R, List.flatten_append, List.length_append]
 omega
theorem cconcat_any (R : List (List (Nat × Nat))) (b c : Nat) (hl : R.length <= 10) (hpos : 0 < R.flatten.length) (hlen : R.flatten.length <= 1000000) (w : World) (hrow : RwR w b R) :
 Calls Try.prog 82 #[.slice (some ⟨b, 0, none⟩) R.length c] w (RcP w R.flatten) := by
 have HR := Lib.hid hrow
 have hfl := fun k => flatC_le (R := R) k
 clear hrow
 go_enter Try.func82, Try.ntmps82
 go_wp2
 go_loopw [3, 11] (CtN w R) (fun _ i _ => 20 - (intOf i).toNat)
 case atStart => exact ⟨0, Nat.zero_le _, rfl, rfl, rfl⟩
 case round =>
  obtain ⟨k, hk, rfl, rfl, rfl⟩ := hrel
  by_cases hlt : k < R.length
  ·have hltz : (k : Int) < (R.length : Int) := by omega
   obtain ⟨g, o, cc, hv, -⟩ := HR.out.2 k hlt
   have HF := Lib.hid (flatC_snoc hlt)
   have hle := hfl k
   have hle2 := hfl (k + 1)
   rw [HF.out, List.length_append] at hle2
   have hsum : ((R.take k).flatten.length : Int) + ((R.getD k []).length : Int) <= 1000000 := by omega
   have hn0 : ¬ ((R.take k).flatten.length : Int) + ((R.getD k []).length : Int) < 0 := by omega
   generalize R.getD k [] = r at *
   generalize (R.take k).flatten = L at *
   go_wp2
   go_roundw
   case rel => exact ⟨k + 1, by omega, by go_num, by rw [HF.out, List.length_append]; go_num, rfl⟩
   case measure => simp [intOf]; omega
  ·obtain rfl : k = R.length := by omega
   have hlast : ¬ ((R.length : Nat) : Int) < (R.length : Int) := by omega
   rw [List.take_length]
   obtain ⟨N, hN⟩ : ∃ N, R.flatten.length = N := ⟨_, rfl⟩
   rw [hN] at hpos hlen hfl ⊢
   have HN := Lib.hid hN
   clear hN
   go_wp2_with fail
   refine (cgrow_any N hpos (by omega) _).mono ?_; rintro e w2 ⟨g0, c0, rfl, ho, hb⟩
   have HS2 : Hid (CtS wr b R [] (.slice (some ⟨g0, 0, none⟩) 0 c0) w2) := ⟨hb, ho, HR.out.later hb⟩
   clear ho hb
   have hrowsQ := HR
   generalize wr = wQ at *
   go_wp2
   go_loopw [6, 27] (CtL wQ b R) (fun _ i _ => 20 - (intOf i).toNat)
   case atStart => exact ⟨0, Nat.zero_le _, rfl, HS2.out⟩
   case round =>
    obtain ⟨k, hk, rfl, hs⟩ := hrel
    have HS := Lib.hid hs
    clear hs HS2
    obtain ⟨a7, c7, hv7, -⟩ := HS.out.own.isR
    subst hv7
    by_cases hlt : k < R.length
    ·have hltz : (k : Int) < (R.length : Int) := by omega
     obtain ⟨g2, o2, cc2, hv, hrow2⟩ := HS.out.rows.2 k hlt
     have HF := Lib.hid (flatC_snoc hlt)
     have hle2 := hfl (k + 1)
     rw [HF.out, List.length_append] at hle2
     have HLE := Lib.hid hle2
     clear hle2
     generalize (R.take k).flatten = L at *
     generalize R.getD k [] = r at *
     have hlow := HS.out.bel.size
     have HR2 := Lib.hid hrow2
     have HLL : Hid (L.length + r.length < 1073741824) := by have := HLE.out; unfold Hid; omega
     clear hrow2
     go_wp2_with (at_builtin; refine wpList_append_rl rfl _ _ rfl _ _ L r rfl HS.out.own ⟨g2, o2, none⟩ cc2 rfl HR2.out HLL.out hlow ?_; intro v' w5 h1 h2; have HO5 := Lib.hid h1; have HB5 := Lib.hid ((Below.refl _ _).grown h2 hlow (fun k hk => (World.ownsRow.lt HS.out.own k hk).1)); clear h1 h2)
     have HS5 : Hid (CtS wQ b R ((R.take (k + 1)).flatten) v' w5) :=
      ⟨HS.out.bel.trans HB5.out, by rw [HF.out]; exact HO5.out, hrowsQ.out.later (HS.out.bel.trans HB5.out)⟩
     go_roundw
     case rel => exact ⟨k + 1, by omega, by go_num, HS5.out⟩
     case measure => simp [intOf]; omega
    ·obtain rfl : k = R.length := by omega
     have hlast2 : ¬ ((R.length : Nat) : Int) < (R.length : Int) := by omega
     have ho : OwnR wr wQ.heap.size (.slice a7 (R.take R.length).flatten.length c7) R.flatten := by
      have := HS.out.own
      rw [List.take_length] at this ⊢
      exact this
     have HO := Lib.hid ho
     have HB := Lib.hid HS.out.bel
     clear ho HS
     generalize (R.take R.length).flatten.length = q at *
     go_wp2
     go_ret
     exact ⟨_, rfl, HO.out, HB.out⟩
theorem cclone_any (v : Value) (L : List (Nat × Nat)) (hlen : L.length <= 1000000) (w : World) (hrow : IsR w v L) : Calls Try.prog 86 #[v] w (RcP w L) := by
 obtain ⟨A, c, rfl, hlc, hr⟩ := hrow
 have HR := Lib.hid hr
 clear hr
 have q22 : ∀ (w : World) (a : Option Addr) (n c n' c' : Nat), (binOp .eql 78 (.slice a n c) (.slice none n' c')).run Try.prog w = .ok (.bool a.isNone) w := fun w a n c n' c' => Lib.run_eql_slice_nil w _ _ a n c n' c' Try.underlying78
 cases A with
 | none =>
  have hL : L = [] := by
   rcases List.eq_nil_or_concat L with h | ⟨M, x, h⟩
   ·exact h
   ·obtain ⟨b, off, cur, h1, _⟩ := HR.out (by rw [h]; simp)
    cases h1
  subst hL
  go_enter Try.func86, Try.ntmps86
  go_wp2
  go_ret
  exact ⟨_, rfl, OwnR.nil _ _, Below.refl _ _⟩
 | some ad =>
  have hb3 := (Below.refl w.heap.size w).alloc (Nat.le_refl _) (.cells #[] 92)
  have HB3 := Lib.hid hb3
  have HO3 : Hid (OwnR (w.alloc (.cells #[] 92)) w.heap.size (.slice (some ⟨w.heap.size, 0, none⟩) 0 0) []) := World.ownsRow_made w #[] 0 (Nat.le_refl _) (Nat.zero_le _) rfl
  have HR3 := Lib.hid (HR.out.later hb3)
  have HLL : Hid (([] : List (Nat × Nat)).length + L.length < 1073741824) := by unfold Hid; simp; omega
  have hlow := HB3.out.size
  clear hb3 HR
  go_enter Try.func86, Try.ntmps86
  go_wp2_with (at_builtin; refine wpList_append_rl rfl _ _ rfl w.heap.size _ [] L rfl HO3.out ad c rfl HR3.out HLL.out hlow ?_; intro v' w5 h1 h2; have HO5 := Lib.hid h1; have HB5 := Lib.hid ((Below.refl w.heap.size _).grown h2 hlow (fun k hk => (World.ownsRow.lt HO3.out k hk).1)); clear h1 h2)
  have HBB := Lib.hid (HB3.out.trans HB5.out)
  have HO6 : Hid (OwnR w5 w.heap.size v' L) := HO5.out
  clear HO3 HR3 HB3 HB5 HO5
  go_wp2
  go_ret
  exact ⟨_, rfl, HO6.out, HBB.out⟩
def OldP (w : World) (l : List (Nat × Nat)) (a : Value) (e : Ending) (w' : World) : Prop := ∃ r, e = .returned r /\ IsR w' r l /\ Below w.heap.size w w' /\ (r = a \/ Nw w.heap.size r)
def leastP (L : List (Nat × Nat)) (k : Nat) : Nat := ((L.take k).map (·.1)).foldl min (L.getD 0 (0, 0)).1
theorem leastP_zero {L : List (Nat × Nat)} : leastP L 0 = (L.getD 0 (0, 0)).1 := rfl
theorem leastP_succ {L : List (Nat × Nat)} {k : Nat} (h : k < L.length) : leastP L (k + 1) = min (leastP L k) (L.getD k (0, 0)).1 := by
 unfold leastP
 rw [take_snoc (d := (0, 0)) h, List.map_append, List.foldl_append]; rfl
theorem leastP_mono {L : List (Nat × Nat)} : ∀ {k m : Nat}, k <= m -> m <= L.length -> leastP L m <= leastP L k
 | k, 0, h, _ => by rw [show k = 0 by omega]; exact Nat.le_refl _
 | k, m + 1, h, hm => by
  rcases Nat.lt_or_ge m k with h1 | h1
  ·rw [show k = m + 1 by omega]; exact Nat.le_refl _
  ·have := leastP_mono h1 (by omega : m <= L.length)
   rw [leastP_succ (by omega)]; omega
theorem leastP_le {L : List (Nat × Nat)} {p : Nat × Nat} (h : p ∈ L) : leastP L L.length <= p.1 := by
 obtain ⟨k, hk, he⟩ := List.mem_iff_getElem.1 h
 have := leastP_mono (L := L) (k := k + 1) (m := L.length) (by omega) (Nat.le_refl _)
 rw [leastP_succ hk] at this
 have e : L.getD k (0, 0) = p := by rw [List.getD_eq_getElem?_getD, List.getElem?_eq_getElem hk, he]; rfl
 rw [e] at this; omega
theorem sorted_one {n : Nat} {L : List (Nat × Nat)} (h1 : L.length <= 1) (hp : ∀ p ∈ L, p.1 < n /\ p.2 ≠ 0 /\ p.2 <= 2) : L = plF n fun b => min 2 (sumAt L b) := by
 rcases L with _ | ⟨p, _ | ⟨q, L⟩⟩
 ·exact (plF_nil fun b _ => rfl).symm
 ·obtain ⟨a, x⟩ := p
  have := hp (a, x) (by simp)
  simp only at this
  rw [plF_congr (G := fun b => if b = a then x else 0) fun b hb => by
   show min 2 ((if a = b then x else 0) + 0) = _
   by_cases e : b = a
   ·rw [if_pos e, if_pos e.symm]; omega
   ·rw [if_neg e, if_neg (fun h => e h.symm)]; rfl]
  exact (plF_one this.1 this.2.1).symm
 ·simp at h1
theorem ne_of_typed {w : World} {b c : Nat} {vs us : Array Value} {t u : TypeId} (h : Blk w b vs t) (k : Blk w c us u) (hne : t ≠ u) : b ≠ c := fun e => by
 subst e
 unfold Blk at h k
 rw [h] at k
 have := Option.some.inj k
 injection this with _ h2
 exact hne h2
structure SrtS (w0 : World) (tb x : Nat) (A : Option Addr) (L : List (Nat × Nat)) (w : World) : Prop where
 bel : Below w0.heap.size w0 w
 ty : TyS w0.heap.size tb x (.slice none 0 0) [] w
 row : RcRow w A L
theorem SrtS.later {w0 w w' : World} {tb x : Nat} {A : Option Addr} {L : List (Nat × Nat)} (h : SrtS w0 tb x A L w) (hb : Below w.heap.size w w') : SrtS w0 tb x A L w' := ⟨h.bel.trans (hb.mono h.bel.size), h.ty.later hb, h.row.later hb⟩
structure SrtB (w0 : World) (tb x : Nat) (A : Option Addr) (L : List (Nat × Nat)) (bx p q : Nat) (w : World) : Prop where
 s : SrtS w0 tb x A L w
 b : Blk w bx #[.int .i64 (p : Int), .int .i64 (q : Int)] 92
theorem SrtB.later {w0 w w' : World} {tb x : Nat} {A : Option Addr} {L : List (Nat × Nat)} {bx p q : Nat} (h : SrtB w0 tb x A L bx p q w) (hb : Below w.heap.size w w') : SrtB w0 tb x A L bx p q w' := ⟨h.s.later hb, h.b.later hb⟩
def SrtL (w0 : World) (tb : Nat) (A : Option Addr) (L : List (Nat × Nat)) (x : Value) (w : World) : Prop := ∃ k : Nat, k <= L.length /\ x = .int .i64 (k : Int) /\ SrtS w0 tb (leastP L k) A L w
theorem csorted_any (n : Nat) (v : Value) (L : List (Nat × Nat)) (w : World) (hv : IsR w v L) (hn : n <= 1000) (hl : L.length <= 1000000) (hp : ∀ p ∈ L, p.1 < n /\ p.2 ≠ 0 /\ p.2 <= 2) :
 Calls Try.prog 81 #[v] w (OldP w (plF n fun b => min 2 (sumAt L b)) v) := by
 obtain ⟨A, c, rfl, hlc, hr⟩ := hv
 by_cases h1 : L.length <= 1
 ·have HP : Hid (OldP w (plF n fun b => min 2 (sumAt L b)) (.slice A L.length c) (.returned (.slice A L.length c)) w) := ⟨_, rfl, ⟨A, c, by rw [<- sorted_one h1 hp], by rw [<- sorted_one h1 hp]; exact hlc, by rw [<- sorted_one h1 hp]; exact hr⟩, Below.refl _ _, .inl rfl⟩
  have hz : (L.length : Int) <= 1 := by omega
  clear hr h1
  go_enter Try.func81, Try.ntmps81
  go_wp2
  go_ret
  exact HP.out
 ·have hz : ¬ (L.length : Int) <= 1 := by omega
  have hpos : 0 < L.length := by omega
  have hposz : (0 : Int) < (L.length : Int) := by omega
  have HR := Lib.hid hr
  have HPP : Hid (∀ k, k < L.length -> (L.getD k (0, 0)).1 < n /\ (L.getD k (0, 0)).2 ≠ 0 /\ (L.getD k (0, 0)).2 <= 2) := fun k hk => hp _ (by rw [List.getD_eq_getElem?_getD, List.getElem?_eq_getElem hk]; exact List.getElem_mem _)
  have HP := Lib.hid hp
  obtain ⟨bl, ol, hA, hblt, hc⟩ := hr.two (fun e => by rw [e] at hpos; exact absurd hpos (Nat.not_lt_zero _))
  have d0 := (hc 0 hpos).1
  rw [Nat.zero_mul, Nat.add_zero] at d0
  have hl0 : leastP L 0 = (L.getD 0 (0, 0)).1 := leastP_zero
  rw [<- hl0] at d0
  have hlt0 : leastP L 0 < 1000 := by have := (HPP.out 0 hpos).1; rw [<- hl0] at this; omega
  subst hA
  have hb1 := (Below.refl w.heap.size w).alloc (Nat.le_refl _) (.cells #[.int .i64 ((leastP L 0 : Nat) : Int), .slice none 0 0] 118)
  have HS0 : Hid (SrtS w w.heap.size (leastP L 0) (some ⟨bl, ol, none⟩) L (w.alloc (.cells #[.int .i64 ((leastP L 0 : Nat) : Int), .slice none 0 0] 118))) := ⟨hb1, ⟨Blk.new w _ _, Nat.le_refl _, Own8.nil _ _⟩, hr.later hb1⟩
  have hLM : Hid (∀ k, k <= L.length -> leastP L k <= leastP L 0) := fun k hk => leastP_mono (Nat.zero_le _) hk
  clear hr h1 hp hc hl0 hb1
  go_enter Try.func81, Try.ntmps81
  go_upto_region 4 with (fail)
  clear d0
  generalize w.alloc (.cells #[.int .i64 ((leastP L 0 : Nat) : Int), .slice none 0 0] 118) = w1 at *
  have HL0 : Hid (SrtL w w.heap.size (some ⟨bl, ol, none⟩) L (.int .i64 0) w1) := ⟨0, Nat.zero_le _, rfl, HS0.out⟩
  clear HS0
  go_wp2
  go_loopw [18] (SrtL w w.heap.size (some ⟨bl, ol, none⟩) L) (fun x _ => L.length - (intOf x).toNat)
  case atStart => exact HL0.out
  case round =>
   obtain ⟨k, hk, rfl, hs⟩ := hrel
   have HS := Lib.hid hs
   clear hs HL0
   have hle := hLM.out k hk
   by_cases hlt : k < L.length
   ·have hltz : (k : Int) < (L.length : Int) := by omega
    obtain ⟨b2, o2, hA2, hblt2, hc⟩ := HS.out.row.two (fun e => by rw [e] at hlt; exact absurd hlt (Nat.not_lt_zero _))
    cases hA2
    obtain ⟨c0, c1⟩ := hc k hlt
    have hpn := (HPP.out k hlt).1
    have HN : Hid (leastP L (k + 1) = min (leastP L k) (L.getD k (0, 0)).1) := leastP_succ hlt
    generalize (L.getD k (0, 0)).1 = p at *
    generalize (L.getD k (0, 0)).2 = q at *
    generalize leastP L k = y at *
    clear hc
    have hb3 := (Below.refl wr.heap.size wr).alloc (Nat.le_refl _) (.cells #[.int .i64 (p : Int), .int .i64 (q : Int)] 92)
    have HX3 : Hid (SrtB w w.heap.size y (some ⟨bl, ol, none⟩) L wr.heap.size p q (wr.alloc (.cells #[.int .i64 (p : Int), .int .i64 (q : Int)] 92))) := ⟨HS.out.later hb3, Blk.new wr _ _⟩
    have hmz : min (y : Int) (p : Int) = ((min y p : Nat) : Int) := by omega
    clear hb3 HS
    go_upto_region 7 with (fail)
    clear c0 c1
    generalize wr.alloc (.cells #[.int .i64 (p : Int), .int .i64 (q : Int)] 92) = w3 at *
    generalize wr.heap.size = bx at *
    refine wp_region_stable_last (S := (SrtB w w.heap.size y (some ⟨bl, ol, none⟩) L bx p q)) (hSt := fun _ _ h hb => h.later hb) (plan := [[(3, none)], [(3, none)], [(23, some 1)], [(24, some 2)], [(25, some 3)], [(5, none)], [(27, some 5)], [(26, some 4), (28, some 6)], [(22, some 0)], [(30, some 8)]]) rfl (by kernel_rfl) (by kernel_rfl) (by kernel_rfl) (by kernel_rfl) ?hS ?_
    rotate_left
    simp only [List.dropLast]
    iterate 10 first
     | (refine chain_skip (by rfl) (by rfl) ?_)
     | (apply chain_want (by rfl)
        ·intro act wx hS hr
         simp at hr
         have t0 := hS.s.ty.blk.cell 0
         have x0 := hS.b.cell 0
         simp at t0 x0
         go_simp
         (try go_ints)
         first
          | exact Done.same
       )
    show ∀ w', _ -> _
    intro w9 hw9
    simp [Act.put]
    case hS => exact HX3.out
    clear HX3
    have t0 := hw9.s.ty.blk.cell 0
    have f0 := hw9.s.ty.blk.frozen 0
    simp at t0
    have HS5 : Hid (SrtS w w.heap.size (min y p) (some ⟨bl, ol, none⟩) L (w9.setCell ⟨w.heap.size, 0, none⟩ (.int .i64 ((min y p : Nat) : Int)))) := by
     have hb := hw9.s.ty.blk.setCell 0 (.int .i64 ((min y p : Nat) : Int))
     exact ⟨hw9.s.bel.setCell (p := ⟨w.heap.size, 0, none⟩) (Nat.le_refl _) _, ⟨by simpa using hb, hw9.s.ty.low, Own8.nil _ _⟩, hw9.s.row.keep fun b cur hx => hx.setCell_ne (a := ⟨w.heap.size, 0, none⟩) (fun e => (ne_of_typed hx hw9.s.ty.blk (by decide)) e.symm) _⟩
    clear hw9
    have HS6 : Hid (SrtS w w.heap.size (leastP L (k + 1)) (some ⟨bl, ol, none⟩) L (w9.setCell ⟨w.heap.size, 0, none⟩ (.int .i64 ((min y p : Nat) : Int)))) := by unfold Hid; rw [HN.out]; exact HS5.out
    generalize ((min y p : Nat) : Int) = mv at *
    clear HS5 HN
    go_wp2
    go_roundw
    case rel => exact ⟨k + 1, by omega, by go_num, HS6.out⟩
    case measure => simp [intOf]; omega
   ·obtain rfl : k = L.length := by omega
    have hlast : ¬ ((L.length : Nat) : Int) < (L.length : Int) := by omega
    have HAL := Lib.hid (fun (q : Nat × Nat) (hq : q ∈ L) => leastP_le hq)
    generalize leastP L L.length = y at *
    have HC := Lib.hid (caddAll_any w.heap.size w.heap.size y n [] (.slice none 0 0) (.slice (some ⟨bl, ol, none⟩) L.length c) L wr HS.out.ty HS.out.bel.size ⟨_, c, rfl, hlc, HS.out.row⟩ (by omega) hn (.inr rfl) (fun q hq => ⟨HAL.out q hq, (HP.out q hq).1, by have := (HP.out q hq).2.2; omega⟩) hl)
    go_wp2_with fail
    refine HC.out.mono ?_; rintro e w4 ⟨v4, rfl, hty, hkt⟩
    have HTY := Lib.hid hty
    have HB4 := Lib.hid (HS.out.bel.trans (hkt.bel))
    have HRE : Hid (y + (tyAll y [] L).length <= n) := by
     have := tyAll_reach (first := y) (n := n) (L := L) (S := []) (by have := HAL.out (L.getD 0 (0, 0)) (by rw [List.getD_eq_getElem?_getD, List.getElem?_eq_getElem hpos]; exact List.getElem_mem _); have := (HPP.out 0 hpos).1; simp; omega) (fun q hq => ⟨HAL.out q hq, (HP.out q hq).1⟩)
     exact this
    have HF : Hid (plF (y + (tyAll y [] L).length) (tyF y (tyAll y [] L)) = plF n fun b => min 2 (sumAt L b)) := plF_all (fun q hq => ⟨HAL.out q hq, (HP.out q hq).1⟩) fun b _ => rfl
    have HD := Lib.hid (cplaces_any w.heap.size w.heap.size y (tyAll y [] L) v4 w4 HTY.out (by omega) (by have := HRE.out; omega))
    rw [HF.out] at HD
    clear hty hkt HC HS HF HTY
    go_wp2_with fail
    refine HD.out.mono ?_; rintro e w5 ⟨r, rfl, ho, hb⟩
    have HO := Lib.hid ho
    have HB5 := Lib.hid (HB4.out.trans (hb.mono HB4.out.size))
    have HNW : Hid (Nw w.heap.size r) := (ho.nw).mono HB4.out.size
    obtain ⟨a9, c9, hv9, -⟩ := ho.isR
    have HPF : Hid (OldP w (plF n fun b => min 2 (sumAt L b)) (.slice (some ⟨bl, ol, none⟩) L.length c) (.returned r) w5) := ⟨r, rfl, ho.isR, HB5.out, .inr HNW.out⟩
    subst hv9
    clear ho hb HD HO HNW HB5 HB4
    generalize (plF n fun b => min 2 (sumAt L b)).length = z at *
    go_wp2
    go_ret
    exact HPF.out
def EitP (w : World) (l : List (Nat × Nat)) (a b : Value) (e : Ending) (w' : World) : Prop := ∃ r, e = .returned r /\ IsR w' r l /\ Below w.heap.size w w' /\ (r = a \/ r = b \/ Nw w.heap.size r)
theorem ceither_any (u v : Value) (n : Nat) (F G : Nat -> Nat) (w : World) (hu : IsR w u (plF n F)) (hv : IsR w v (plF n G)) (hn : n <= 1000) (hF : ∀ b, F b <= 2) (hG : ∀ b, G b <= 2) : Calls Try.prog 69 #[u, v] w (EitP w (plF n fun b => min 2 (F b + G b)) u v) := by
 obtain ⟨A, c, rfl, hlc, hr⟩ := hu
 obtain ⟨A', c', rfl, hlc', hr'⟩ := hv
 have hl1 := plF_length (F := F) (n := n)
 have hl2 := plF_length (F := G) (n := n)
 by_cases h1 : plF n F = []
 ·have h0 := plF_empty h1
  have e : plF n (fun b => min 2 (F b + G b)) = plF n G := plF_congr fun b hb => by rw [h0 b hb]; have := hG b; omega
  have HP : Hid (EitP w (plF n fun b => min 2 (F b + G b)) (.slice A (plF n F).length c) (.slice A' (plF n G).length c') (.returned (.slice A' (plF n G).length c')) w) := ⟨_, rfl, ⟨A', c', by rw [e], by rw [e]; exact hlc', by rw [e]; exact hr'⟩, Below.refl _ _, .inr (.inl rfl)⟩
  have hz : ((((plF n F).length : Nat) : Int) == 0) = true := by rw [h1]; rfl
  generalize (plF n F).length = x at *
  generalize (plF n G).length = y at *
  clear hr hr' h1 h0 e hlc hlc'
  go_enter Try.func69, Try.ntmps69
  go_wp2
  go_ret
  exact HP.out
 ·have hz : ((((plF n F).length : Nat) : Int) == 0) = false := by
   rw [beq_eq_false_iff_ne]
   have : (plF n F).length ≠ 0 := fun e => h1 (List.length_eq_zero_iff.1 e)
   omega
  by_cases h2 : plF n G = []
  ·have h0 := plF_empty h2
   have e : plF n (fun b => min 2 (F b + G b)) = plF n F := plF_congr fun b hb => by rw [h0 b hb]; have := hF b; omega
   have HP : Hid (EitP w (plF n fun b => min 2 (F b + G b)) (.slice A (plF n F).length c) (.slice A' (plF n G).length c') (.returned (.slice A (plF n F).length c)) w) := ⟨_, rfl, ⟨A, c, by rw [e], by rw [e]; exact hlc, by rw [e]; exact hr⟩, Below.refl _ _, .inl rfl⟩
   have hz2 : ((((plF n G).length : Nat) : Int) == 0) = true := by rw [h2]; rfl
   generalize (plF n F).length = x at *
   generalize (plF n G).length = y at *
   clear hr hr' h1 h2 h0 e hlc hlc'
   go_enter Try.func69, Try.ntmps69
   go_wp2
   go_ret
   exact HP.out
  ·have hz2 : ((((plF n G).length : Nat) : Int) == 0) = false := by
    rw [beq_eq_false_iff_ne]
    have : (plF n G).length ≠ 0 := fun e => h2 (List.length_eq_zero_iff.1 e)
    omega
   obtain ⟨b1, o1, cur1, rfl, hk1, hc1⟩ := hr h1
   obtain ⟨b2, o2, cur2, rfl, hk2, hc2⟩ := hr' h2
   have HE : Hid (∀ b, b < n -> sumAt (plF n F ++ plF n G) b = F b + G b) := fun b hb => by rw [sumAt_append, sumAt_plF, sumAt_plF, if_pos hb, if_pos hb]
   have HEQ : Hid (plF n (fun b => min 2 (sumAt (plF n F ++ plF n G) b)) = plF n fun b => min 2 (F b + G b)) := plF_congr fun b hb => by rw [HE.out b hb]
   have HPP : Hid (∀ p ∈ plF n F ++ plF n G, p.1 < n /\ p.2 ≠ 0 /\ p.2 <= 2) := fun p hp => by
    rcases List.mem_append.1 hp with h | h
    ·have := mem_plF.1 h; exact ⟨this.1, this.2.2, by rw [<- this.2.1]; exact hF _⟩
    ·have := mem_plF.1 h; exact ⟨this.1, this.2.2, by rw [<- this.2.1]; exact hG _⟩
   have HL1 := Lib.hid h1
   have hpos : 0 < (plF n F).length := List.length_pos_iff.2 h1
   have HR1 := Lib.hid hr
   have HR2 := Lib.hid hr'
   have hb3 := (Below.refl w.heap.size w).alloc (Nat.le_refl _) (.cells #[.slice (some ⟨b1, o1, none⟩) (plF n F).length c, .slice (some ⟨b2, o2, none⟩) (plF n G).length c'] 78)
   have HX3 := Blk.new w #[.slice (some ⟨b1, o1, none⟩) (plF n F).length c, .slice (some ⟨b2, o2, none⟩) (plF n G).length c'] 78
   have HRW : Hid (RwR (w.alloc (.cells #[.slice (some ⟨b1, o1, none⟩) (plF n F).length c, .slice (some ⟨b2, o2, none⟩) (plF n G).length c'] 78)) w.heap.size [plF n F, plF n G]) := ⟨HX3.lt, fun k hk => by
    have hk : k < 2 := hk
    rcases (show k = 0 \/ k = 1 by omega) with rfl | rfl
    ·exact ⟨b1, o1, c, by rw [HX3.cell]; rfl, hr.later hb3⟩
    ·exact ⟨b2, o2, c', by rw [HX3.cell]; rfl, hr'.later hb3⟩⟩
   have HB3 := Lib.hid hb3
   have HFL : Hid (([plF n F, plF n G] : List (List (Nat × Nat))).flatten = plF n F ++ plF n G) := by unfold Hid; simp
   have HC := Lib.hid (cconcat_any [plF n F, plF n G] w.heap.size 2 (by simp) (by rw [HFL.out, List.length_append]; omega) (by rw [HFL.out, List.length_append]; omega) _ HRW.out)
   rw [HFL.out] at HC
   have hll : (([plF n F, plF n G] : List (List (Nat × Nat))).length : Nat) = 2 := rfl
   have HLS : Hid ((plF n F ++ plF n G).length <= 1000000) := by unfold Hid; rw [List.length_append]; omega
   rw [hll] at HC
   clear hll HFL HRW HX3 hb3 h1 h2 hk1 hc1 hk2 hc2 hr hr' HL1 HR1 HR2 HE hlc hlc' hl1 hl2 hpos
   have HSO : Hid (∀ r w4, IsR w4 r (plF n F ++ plF n G) -> Calls Try.prog 81 #[r] w4 (OldP w4 (plF n fun b => min 2 (F b + G b)) r)) := fun r w4 h => by
    have := csorted_any n r (plF n F ++ plF n G) w4 h hn HLS.out HPP.out
    rw [HEQ.out] at this
    exact this
   generalize (plF n F).length = x at *
   generalize (plF n G).length = y at *
   generalize plF n F ++ plF n G = M at *
   clear HPP HEQ HLS
   go_enter Try.func69, Try.ntmps69
   go_wp2_with fail
   refine HC.out.mono ?_; rintro e w4 ⟨r, rfl, ho, hb⟩
   have HN4 := Lib.hid (ho.nw.mono HB3.out.size)
   obtain ⟨a7, c7, hv7, -⟩ := ho.isR
   have HD := Lib.hid (HSO.out r w4 ho.isR)
   subst hv7
   have HB4 := Lib.hid (HB3.out.trans (hb.mono HB3.out.size))
   clear ho hb HC HSO
   go_wp2_with fail
   refine HD.out.mono ?_; rintro e w5 ⟨r5, rfl, hi, hb, hor⟩
   have HP : Hid (EitP w (plF n fun b => min 2 (F b + G b)) (.slice (some ⟨b1, o1, none⟩) x c) (.slice (some ⟨b2, o2, none⟩) y c') (.returned r5) w5) := ⟨r5, rfl, hi, HB4.out.trans (hb.mono HB4.out.size), .inr (.inr (by rcases hor with h | h; rw [h]; exact HN4.out; exact h.mono HB4.out.size))⟩
   obtain ⟨a8, c8, hv8, -⟩ := hi
   subst hv8
   clear hb hor HD HB4 HN4
   generalize (plF n fun b => min 2 (F b + G b)).length = z at *
   go_wp2
   go_ret
   exact HP.out
end Go.Proofs.Ytpbbokdmoaadfaa
