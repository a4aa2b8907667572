/- What a kid writes behind others, and what all kids write: the program's walks. -/
import Derived.Test.YtgdlbahfmddkaaaM32
import Derived.Test.YtgdlbahfmddkaaaM33
import Derived.Test.YtgdlbahfmddkaaaM09
import Derived.Test.YtgdlbahfmddkaaaM03
namespace Go.Proofs.Ytgdlbahfmddkaaa
open Go Go.RowKit
set_option linter.unusedVariables false
set_option linter.unusedSimpArgs false
set_option maxRecDepth 100000

/-- A word behind another one, if there is one. -/
def GotV (B : Nat) (W : Wd) (r : Option Wd) (x : Value) (w : World) : Prop := match r with
  | none => x = .tuple #[.slice none 0 0, .bool false]
  | some V => ∃ v, x = .tuple #[v, .bool true] ∧ Own8 w B v (nats (W ++ V))
def GotP (B : Nat) (W : Wd) (w : World) (r : Option Wd) (e : Ending) (w' : World) : Prop := ∃ x, e = .returned x ∧ GotV B W r x w' ∧ Kp B w w'
/-- The same, whatever is told where there is none. -/
def GosV (B : Nat) (W : Wd) (r : Option Wd) (x : Value) (w : World) : Prop := match r with
  | none => ∃ v, x = .tuple #[v, .bool false]
  | some V => ∃ v, x = .tuple #[v, .bool true] ∧ Own8 w B v (nats (W ++ V))
def GosP (B : Nat) (W : Wd) (w : World) (r : Option Wd) (e : Ending) (w' : World) : Prop := ∃ x, e = .returned x ∧ GosV B W r x w' ∧ Kp B w w'
/-- What a part is asked. -/
def PartC (w0 : World) (A : Option Addr) (l : List Nd) (c : Nat) (q : Nat) : Prop := ∀ (i : Nat) (v : Vl) (B : Option Addr) (cv : Nat) (W : Wd) (ow : Value) (w : World), q < i → i ≤ l.length → v.kids.len ≤ cv → VRow w0 B 0 v.kids →
  W.length + 2002 * cntV v ≤ 536870912 → Below w0.heap.size w0 w → Own8 w w0.heap.size ow (nats W) →
  Calls Try.prog 25 #[.agg #[.slice A l.length c], ow, .agg (vlC v B cv), .int .i64 (i : Int), .int .i64 (q : Int)] w (GotP w0.heap.size W w (wrV l q v))
/-- What the closure of a node's kids has captured. -/
structure CpS (A : Option Addr) (l : List Nd) (c a : Nat) (n : Nd) (v : Vl) (B : Option Addr) (cv m b3 b4 b5 b6 b7 : Nat) (w : World) : Prop where
  wr : Blk w b3 #[.slice A l.length c] 55
  ix : Blk w b4 #[.int .i64 (a : Int)] 3
  nd : Blk w b5 (ndC n) 44
  vl : Blk w b6 (vlC v B cv) 27
  le : Blk w b7 #[.int .i64 (m : Int)] 3
theorem CpS.kept {A : Option Addr} {l : List Nd} {c a : Nat} {n : Nd} {v : Vl} {B : Option Addr} {cv m b3 b4 b5 b6 b7 H : Nat} {w w' : World} (h : CpS A l c a n v B cv m b3 b4 b5 b6 b7 w) (k : Kp H w w') : CpS A l c a n v B cv m b3 b4 b5 b6 b7 w' :=
  ⟨k.typ _ _ _ (by decide) h.wr, k.typ _ _ _ (by decide) h.ix, k.typ _ _ _ (by decide) h.nd, k.typ _ _ _ (by decide) h.vl, k.typ _ _ _ (by decide) h.le⟩
theorem CpS.later {A : Option Addr} {l : List Nd} {c a : Nat} {n : Nd} {v : Vl} {B : Option Addr} {cv m b3 b4 b5 b6 b7 : Nat} {w w' : World} (h : CpS A l c a n v B cv m b3 b4 b5 b6 b7 w) (k : Below w.heap.size w w') : CpS A l c a n v B cv m b3 b4 b5 b6 b7 w' :=
  ⟨h.wr.later k, h.ix.later k, h.nd.later k, h.vl.later k, h.le.later k⟩
/-- The closure. -/
def fKd (b3 b4 b5 b6 b7 : Nat) : Value := .func (.func 43) #[] #[.pointer (some ⟨b3, 0, none⟩), .pointer (some ⟨b4, 0, none⟩), .pointer (some ⟨b5, 0, none⟩), .pointer (some ⟨b6, 0, none⟩), .pointer (some ⟨b7, 0, none⟩)]
structure CqS (w0 : World) (A : Option Addr) (l : List Nd) (c a : Nat) (n : Nd) (v : Vl) (B : Option Addr) (cv m b3 b4 b5 b6 b7 : Nat) (y : Vl) (Y : Option Addr) (cy : Nat) (w : World) : Prop where
  bel : Below w0.heap.size w0 w
  cp : CpS A l c a n v B cv m b3 b4 b5 b6 b7 w
  bx : Blk w w0.heap.size (vlC y Y cy) 27
theorem CqS.later {w0 w w' : World} {A : Option Addr} {l : List Nd} {c a : Nat} {n : Nd} {v : Vl} {B : Option Addr} {cv m b3 b4 b5 b6 b7 : Nat} {y : Vl} {Y : Option Addr} {cy : Nat} (h : CqS w0 A l c a n v B cv m b3 b4 b5 b6 b7 y Y cy w) (hb : Below w.heap.size w w') : CqS w0 A l c a n v B cv m b3 b4 b5 b6 b7 y Y cy w' :=
  ⟨h.bel.trans (hb.mono h.bel.size), h.cp.later hb, h.bx.later hb⟩
theorem CqS.kept {w0 w w' : World} {A : Option Addr} {l : List Nd} {c a : Nat} {n : Nd} {v : Vl} {B : Option Addr} {cv m b3 b4 b5 b6 b7 H : Nat} {y : Vl} {Y : Option Addr} {cy : Nat} (h : CqS w0 A l c a n v B cv m b3 b4 b5 b6 b7 y Y cy w) (k : Kp H w w') (hH : H ≤ w0.heap.size) : CpS A l c a n v B cv m b3 b4 b5 b6 b7 w' ∧ Kp H w0 w' :=
  ⟨h.cp.kept k, (Kp.of h.bel hH).trans k⟩
structure CrzS (w0 : World) (b7 m : Nat) (w : World) : Prop where
  bel : Below w0.heap.size w0 w
  le : Blk w b7 #[.int .i64 (m : Int)] 3
theorem CrzS.later {w0 w w' : World} {b7 m : Nat} (h : CrzS w0 b7 m w) (hb : Below w.heap.size w w') : CrzS w0 b7 m w' := ⟨h.bel.trans (hb.mono h.bel.size), h.le.later hb⟩
theorem own8_form {w : World} {B : Nat} {v : Value} {W : Wd} (h : Own8 w B v (nats W)) : ∃ A c, v = .slice A W.length c ∧ W.length ≤ c := by
  obtain ⟨_, ⟨hv, hn⟩ | ⟨g, cap, cur, hv, hb, hg, h1, h2, h3, h4⟩⟩ := h
  · rw [nats_length] at hn
    exact ⟨none, 0, by rw [hv, hn], by omega⟩
  · rw [nats_length] at hv h1
    exact ⟨_, cap, hv, h1⟩
set_option maxHeartbeats 16000000 in
theorem kidclo_any {w0 : World} {A : Option Addr} {l : List Nd} {c a : Nat} {n : Nd} {v : Vl} {B : Option Addr} {cv m b3 b4 b5 b6 b7 : Nat} (hm : m ≤ 1) (k q : Nat) (hkk : k < 4611686018427387904) (hq : kidN n v.pick k = (q : Int)) (hqa : q < a) (hal : a ≤ l.length) (hP : PartC w0 A l c q)
    (y : Vl) (Y : Option Addr) (cy : Nat) (hcy : y.kids.len ≤ cy) (hY : VRow w0 Y 0 y.kids) (W : Wd) (ow : Value) (hbd : W.length + 2002 * cntV y ≤ 536870912) (hlen : ∀ V, wrV l q y = some V → V.length ≤ 2002 * cntV y)
    (w : World) (hw : Below w0.heap.size w0 w) (ho : Own8 w w0.heap.size ow (nats W)) (h : CpS A l c a n v B cv m b3 b4 b5 b6 b7 w) :
    Calls Try.prog 43 #[ow, .int .i64 (k : Int), .agg (vlC y Y cy), .pointer (some ⟨b3, 0, none⟩), .pointer (some ⟨b4, 0, none⟩), .pointer (some ⟨b5, 0, none⟩), .pointer (some ⟨b6, 0, none⟩), .pointer (some ⟨b7, 0, none⟩)] w (GosP w0.heap.size W w (fitW m (wrV l q y))) := by
  have HS0 : Hid (CqS w A l c a n v B cv m b3 b4 b5 b6 b7 y Y cy (w.alloc (.cells (vlC y Y cy) 27))) := ⟨(Below.refl _ _).alloc (Nat.le_refl _) _, h.later ((Below.refl _ _).alloc (Nat.le_refl _) _), Blk.new _ _ _⟩
  have HO := Lib.hid ho
  have HW := Lib.hid hw
  have HPO : Hid (∀ w', Calls Try.prog 44 #[.agg (ndC n), .int .i64 v.pick, .int .i64 (k : Int)] w' (Ans w' (.int .i64 (q : Int)))) := fun w' => by rw [← hq]; exact vpart_any n v.pick k hkk w'
  have HPA : Hid (∀ w', CqS w A l c a n v B cv m b3 b4 b5 b6 b7 y Y cy w' → Calls Try.prog 25 #[.agg #[.slice A l.length c], ow, .agg (vlC y Y cy), .int .i64 (a : Int), .int .i64 (q : Int)] w' (GotP w0.heap.size W w' (wrV l q y))) :=
    fun w' h => hP a y Y cy W ow w' hqa hal hcy hY hbd (hw.trans (h.bel.mono hw.size)) (ho.later h.bel)
  have HL : Hid (∀ V, wrV l q y = some V → W.length + V.length ≤ 536870912) := fun V hV => by have := hlen V hV; omega
  have HF : Hid (∀ V, wrV l q y = some V → fitW m (wrV l q y) = if V.length < m then none else some V) := fun V hV => by rw [hV]; rfl
  have HN : Hid (wrV l q y = none → fitW m (wrV l q y) = none) := fun hV => by rw [hV]; rfl
  generalize fitW m (wrV l q y) = rf at *
  generalize wrV l q y = r at *
  obtain ⟨oA, oc, hov, hoc⟩ := own8_form ho
  clear h ho hw hP hY hcy hq hlen hbd
  subst hov
  obtain ⟨yk, yb, yt, yp, ys⟩ := y
  obtain ⟨nk, na, nb, nlo, nhi, ncls, ntext⟩ := n
  obtain ⟨vk, vb, vt, vp, ks⟩ := v
  unfold ndC at HPO
  rw [vlC_five] at *
  simp only at *
  have hoc2 : W.length ≤ 536870912 ∨ 536870912 < W.length := by omega
  go_enter Try.func43, Try.ntmps43
  go_upto_region 1 with (fail)
  generalize w.alloc (.cells #[.int .i64 yk, .int .u8 ((yb.toNat : Nat) : Int), .string (bs yt), .int .i64 yp, .slice Y ys.len cy] 27) = w1 at *
  have HBR : Hid (∀ w w', Below w.heap.size w w' → G.BlR w w') := fun _ _ h => h
  refine G.wp_region_stable_mid (R := G.BlR) HBR.out 9 #[true, true, true, true, true, true, true, true, true, false, false, false, false, false, false] (S := (CqS w A l c a ⟨nk, na, nb, nlo, nhi, ncls, ntext⟩ ⟨vk, vb, vt, vp, ks⟩ B cv m b3 b4 b5 b6 b7 ⟨yk, yb, yt, yp, ys⟩ Y cy)) (hSt := fun _ _ h hb => h.later hb) (plan := [[(3, none)], [(0, none)], [(10, none)], [(4, none)], [(5, none)], [(6, none)], [(21, some 5)], [(1, none)], [(20, some 4), (22, some 6), (23, some 7)]]) rfl (by kernel_rfl) (by kernel_rfl) (by kernel_rfl) (by kernel_rfl) ?hS ?_
  rotate_left
  iterate 9 first
    | (refine G.chain_skip (by rfl) (by rfl) ?_)
    | (apply G.chain_want (by rfl)
       · intro act wx hS hr
         simp at hr
         obtain ⟨y0, y1, y2, y3, y4⟩ := vl_cells hS.bx
         obtain ⟨p0, p1, p2, p3, p4⟩ := vl_cells hS.cp.vl
         obtain ⟨f0, f1, f2, f3, f4, f5, f6, f7, f8, f9⟩ := ten_cells hS.cp.nd
         have e3 := hS.cp.wr.cell 0
         have e4 := hS.cp.ix.cell 0
         have e7 := hS.cp.le.cell 0
         simp at e3 e4 e7
         go_simp
         (try go_ints)
         first
           | ((with_reducible refine (HPO.out _).mono ?_); rintro e w' ⟨rfl, hb⟩; exact G.Done.mk (HBR.out _ _ hb))
           | exact G.Done.same HBR.out
      )
  show ∀ w', _ → _
  intro wz hz
  simp [Act.put]
  case hS => exact HS0.out
  have HS2 := Lib.hid hz
  clear hz HS0
  refine wpAny_ready (rs := [9]) (by kernel_rfl) (by simp) ?_
  refine AllReady.cons rfl (fun K hK => ?_) AllReady.nil
  go_simp
  refine (HPA.out _ HS2.out).mono ?_; rintro e w3 ⟨x3, rfl, hx3, hk3⟩
  refine hK _ _ ?_; clear hK K
  obtain ⟨hcp3, hkp3⟩ := HS2.out.kept hk3 HW.out.size
  have HK3 := Lib.hid hkp3
  have HC3 : Hid (CrzS w3 b7 m w3) := ⟨Below.refl _ _, hcp3.le⟩
  clear hk3 hkp3 hcp3 HPA HPO HS2
  cases r with
  | none =>
    have hx3 : x3 = .tuple #[.slice none 0 0, .bool false] := hx3
    subst hx3
    have e := HN.out rfl
    subst e
    clear HF HN HL
    refine wpAny_take (i := 10) (v := ?_) rfl (by kernel_rfl) (by kernel_rfl) (by kernel_rfl) (fun _ _ _ h => h) (Or.inl ⟨by rfl, ?_⟩) ?_
    rotate_left
    · (intro w; go_simp; try with_reducible rfl)
    refine wpAny_take (i := 11) (v := ?_) rfl (by kernel_rfl) (by kernel_rfl) (by kernel_rfl) (fun _ _ _ h => h) (Or.inl ⟨by rfl, ?_⟩) ?_
    rotate_left
    · (intro w; go_simp; try with_reducible rfl)
    refine wpAny_take (i := 12) (v := ?_) rfl (by kernel_rfl) (by kernel_rfl) (by kernel_rfl) (fun _ _ _ h => h) (Or.inl ⟨by rfl, ?_⟩) ?_
    rotate_left
    · (intro w; go_simp; try with_reducible rfl)
    refine wpAny_take (i := 13) (v := ?_) rfl (by kernel_rfl) (by kernel_rfl) (by kernel_rfl) (fun _ _ _ h => h) (Or.inl ⟨by rfl, ?_⟩) ?_
    rotate_left
    · (intro w; go_simp; try with_reducible rfl)
    refine wpAny_take (i := 14) (v := ?_) rfl (by kernel_rfl) (by kernel_rfl) (by kernel_rfl) (fun _ _ _ h => h) (Or.inl ⟨by rfl, ?_⟩) ?_
    rotate_left
    · (intro w; go_simp; try with_reducible rfl)
    refine wpAny_done (by kernel_rfl) ?_ _
    simp [Act.put]
    go_upto_region 2 with (fail)
    refine wp_region_stable (S := (CrzS w3 b7 m)) (hSt := fun _ _ h hb => h.later hb) (plan := [[(13, none)], [(14, none)], [(29, some 1)], [(13, none)], [(31, some 3)], [(0, none)], [(33, some 5)], [(7, none)], [(34, some 6), (35, some 7)], [(32, some 4), (36, some 8)], [(30, some 2), (37, some 9)], [(28, some 0)], [(38, some 10)]]) (by kernel_rfl) (by kernel_rfl) (by kernel_rfl) ?hS ?_
    rotate_left
    iterate 13 first
      | (refine chain_skip (by rfl) (by rfl) ?_)
      | (apply chain_want (by rfl)
         · intro act wx hS hr
           simp at hr
           have e7 := hS.le.cell 0
           simp at e7
           go_simp
           (try go_ints)
           first
             | exact Done.same
        )
    show ∀ w', _ → _
    intro w4 hw4
    simp [Act.put]
    case hS => exact HC3.out
    have HK4 := Lib.hid (HK3.out.trans (Kp.of hw4.bel (Nat.le_trans HW.out.size HK3.out.size)))
    have HB4 := Lib.hid hw4.bel
    clear hw4 HC3
    go_wp2
    go_ret2
    exact ⟨_, rfl, ⟨_, rfl⟩, HK4.out⟩
  | some V =>
    obtain ⟨v3, rfl, ho3⟩ := hx3
    have HO3 := Lib.hid ho3
    have hb := HL.out V rfl
    have e := HF.out V rfl
    obtain ⟨A3, c3, rfl, hc3⟩ := own8_form ho3
    clear ho3 HF HN HL
    rw [List.length_append] at hc3
    have hl3 : (((W ++ V).length : Nat) : Int) = (W.length : Int) + (V.length : Int) := by rw [List.length_append]; omega
    by_cases hs : V.length < m
    · rw [if_pos hs] at e
      subst e
      have ht : ¬ ((W.length : Int) + (m : Int) ≤ ((W ++ V).length : Int)) := by omega
      have htd : decide ((W.length : Int) + (m : Int) ≤ ((W ++ V).length : Int)) = false := decide_eq_false ht
      clear hl3 hs hc3
      generalize (W ++ V).length = n3 at *
      have hi : (W.length : Int) + (m : Int) ≤ 1073741824 := by omega
      refine wpAny_take (i := 10) (v := ?_) rfl (by kernel_rfl) (by kernel_rfl) (by kernel_rfl) (fun _ _ _ h => h) (Or.inl ⟨by rfl, ?_⟩) ?_
      rotate_left
      · (intro w; go_simp; try with_reducible rfl)
      refine wpAny_take (i := 11) (v := ?_) rfl (by kernel_rfl) (by kernel_rfl) (by kernel_rfl) (fun _ _ _ h => h) (Or.inl ⟨by rfl, ?_⟩) ?_
      rotate_left
      · (intro w; go_simp; try with_reducible rfl)
      refine wpAny_take (i := 12) (v := ?_) rfl (by kernel_rfl) (by kernel_rfl) (by kernel_rfl) (fun _ _ _ h => h) (Or.inl ⟨by rfl, ?_⟩) ?_
      rotate_left
      · (intro w; go_simp; try with_reducible rfl)
      refine wpAny_take (i := 13) (v := ?_) rfl (by kernel_rfl) (by kernel_rfl) (by kernel_rfl) (fun _ _ _ h => h) (Or.inl ⟨by rfl, ?_⟩) ?_
      rotate_left
      · (intro w; go_simp; try with_reducible rfl)
      refine wpAny_take (i := 14) (v := ?_) rfl (by kernel_rfl) (by kernel_rfl) (by kernel_rfl) (fun _ _ _ h => h) (Or.inl ⟨by rfl, ?_⟩) ?_
      rotate_left
      · (intro w; go_simp; try with_reducible rfl)
      refine wpAny_done (by kernel_rfl) ?_ _
      simp [Act.put]
      go_upto_region 2 with (fail)
      refine wp_region_stable (S := (CrzS w3 b7 m)) (hSt := fun _ _ h hb => h.later hb) (plan := [[(13, none)], [(14, none)], [(29, some 1)], [(13, none)], [(31, some 3)], [(0, none)], [(33, some 5)], [(7, none)], [(34, some 6), (35, some 7)], [(32, some 4), (36, some 8)], [(30, some 2), (37, some 9)], [(28, some 0)], [(38, some 10)]]) (by kernel_rfl) (by kernel_rfl) (by kernel_rfl) ?hS ?_
      rotate_left
      iterate 13 first
        | (refine chain_skip (by rfl) (by rfl) ?_)
        | (apply chain_want (by rfl)
           · intro act wx hS hr
             simp at hr
             have e7 := hS.le.cell 0
             simp at e7
             go_simp
             (try go_ints)
             first
               | exact Done.same
          )
      show ∀ w', _ → _
      intro w4 hw4
      simp [Act.put]
      case hS => exact HC3.out
      have HK4 := Lib.hid (HK3.out.trans (Kp.of hw4.bel (Nat.le_trans HW.out.size HK3.out.size)))
      have HB4 := Lib.hid hw4.bel
      clear hw4 HC3
      go_wp2
      go_ret2
      exact ⟨_, rfl, ⟨_, rfl⟩, HK4.out⟩
    · rw [if_neg hs] at e
      subst e
      have ht : (W.length : Int) + (m : Int) ≤ ((W ++ V).length : Int) := by omega
      have htd : decide ((W.length : Int) + (m : Int) ≤ ((W ++ V).length : Int)) = true := decide_eq_true ht
      have HG : Hid (∀ w4, Below w3.heap.size w3 w4 → GosV w0.heap.size W (some V) (.tuple #[.slice A3 (W ++ V).length c3, .bool true]) w4) := fun w4 h => ⟨_, rfl, HO3.out.later h⟩
      clear hl3 hs hc3 HO3
      generalize (W ++ V).length = n3 at *
      have hi : (W.length : Int) + (m : Int) ≤ 1073741824 := by omega
      refine wpAny_take (i := 10) (v := ?_) rfl (by kernel_rfl) (by kernel_rfl) (by kernel_rfl) (fun _ _ _ h => h) (Or.inl ⟨by rfl, ?_⟩) ?_
      rotate_left
      · (intro w; go_simp; try with_reducible rfl)
      refine wpAny_take (i := 11) (v := ?_) rfl (by kernel_rfl) (by kernel_rfl) (by kernel_rfl) (fun _ _ _ h => h) (Or.inl ⟨by rfl, ?_⟩) ?_
      rotate_left
      · (intro w; go_simp; try with_reducible rfl)
      refine wpAny_take (i := 12) (v := ?_) rfl (by kernel_rfl) (by kernel_rfl) (by kernel_rfl) (fun _ _ _ h => h) (Or.inl ⟨by rfl, ?_⟩) ?_
      rotate_left
      · (intro w; go_simp; try with_reducible rfl)
      refine wpAny_take (i := 13) (v := ?_) rfl (by kernel_rfl) (by kernel_rfl) (by kernel_rfl) (fun _ _ _ h => h) (Or.inl ⟨by rfl, ?_⟩) ?_
      rotate_left
      · (intro w; go_simp; try with_reducible rfl)
      refine wpAny_take (i := 14) (v := ?_) rfl (by kernel_rfl) (by kernel_rfl) (by kernel_rfl) (fun _ _ _ h => h) (Or.inl ⟨by rfl, ?_⟩) ?_
      rotate_left
      · (intro w; go_simp; try with_reducible rfl)
      refine wpAny_done (by kernel_rfl) ?_ _
      simp [Act.put]
      go_upto_region 2 with (fail)
      refine wp_region_stable (S := (CrzS w3 b7 m)) (hSt := fun _ _ h hb => h.later hb) (plan := [[(13, none)], [(14, none)], [(29, some 1)], [(13, none)], [(31, some 3)], [(0, none)], [(33, some 5)], [(7, none)], [(34, some 6), (35, some 7)], [(32, some 4), (36, some 8)], [(30, some 2), (37, some 9)], [(28, some 0)], [(38, some 10)]]) (by kernel_rfl) (by kernel_rfl) (by kernel_rfl) ?hS ?_
      rotate_left
      iterate 13 first
        | (refine chain_skip (by rfl) (by rfl) ?_)
        | (apply chain_want (by rfl)
           · intro act wx hS hr
             simp at hr
             have e7 := hS.le.cell 0
             simp at e7
             go_simp
             (try go_ints)
             first
               | exact Done.same
          )
      show ∀ w', _ → _
      intro w4 hw4
      simp [Act.put]
      case hS => exact HC3.out
      have HK4 := Lib.hid (HK3.out.trans (Kp.of hw4.bel (Nat.le_trans HW.out.size HK3.out.size)))
      have HB4 := Lib.hid hw4.bel
      clear hw4 HC3
      go_wp2
      go_ret2
      exact ⟨_, rfl, HG.out _ HB4.out, HK4.out⟩
end Go.Proofs.Ytgdlbahfmddkaaa
