/- What a kid writes behind others, and what all kids write: the program's walks. -/
import Derived.Test.YtgdlbahfmddkaaaM34
import Derived.Test.YtgdlbahfmddkaaaM35
import Derived.Test.YtgdlbahfmddkaaaM09
import Derived.Test.YtgdlbahfmddkaaaM03
namespace Go.Proofs.Ytgdlbahfmddkaaa
open Go Go.RowKit
set_option linter.unusedVariables false
set_option linter.unusedSimpArgs false
set_option maxRecDepth 100000

/-- A word behind another one, if there is one. -/
def GotV (B : Nat) (W : Wd) (r : Option Wd) (x : Value) (w : World) : Prop := match r with
  | none => x = .tuple #[.slice none 0 0, .bool false]
  | some V => ∃ v, x = .tuple #[v, .bool true] ∧ Own8 w B v (nats (W ++ V))
def GotP (B : Nat) (W : Wd) (w : World) (r : Option Wd) (e : Ending) (w' : World) : Prop := ∃ x, e = .returned x ∧ GotV B W r x w' ∧ Kp B w w'
/-- The same, whatever is told where there is none. -/
def GosV (B : Nat) (W : Wd) (r : Option Wd) (x : Value) (w : World) : Prop := match r with
  | none => ∃ v, x = .tuple #[v, .bool false]
  | some V => ∃ v, x = .tuple #[v, .bool true] ∧ Own8 w B v (nats (W ++ V))
def GosP (B : Nat) (W : Wd) (w : World) (r : Option Wd) (e : Ending) (w' : World) : Prop := ∃ x, e = .returned x ∧ GosV B W r x w' ∧ Kp B w w'
/-- What a part is asked. -/
def PartC (w0 : World) (A : Option Addr) (l : List Nd) (c : Nat) (q : Nat) : Prop := ∀ (i : Nat) (v : Vl) (B : Option Addr) (cv : Nat) (W : Wd) (ow : Value) (w : World), q < i → i ≤ l.length → v.kids.len ≤ cv → VRow w0 B 0 v.kids →
  W.length + 2002 * cntV v ≤ 536870912 → Below w0.heap.size w0 w → Own8 w w0.heap.size ow (nats W) →
  Calls Try.prog 25 #[.agg #[.slice A l.length c], ow, .agg (vlC v B cv), .int .i64 (i : Int), .int .i64 (q : Int)] w (GotP w0.heap.size W w (wrV l q v))
/-- What the closure of a node's kids has captured. -/
structure CpS (A : Option Addr) (l : List Nd) (c a : Nat) (n : Nd) (v : Vl) (B : Option Addr) (cv m b3 b4 b5 b6 b7 : Nat) (w : World) : Prop where
  wr : Blk w b3 #[.slice A l.length c] 55
  ix : Blk w b4 #[.int .i64 (a : Int)] 3
  nd : Blk w b5 (ndC n) 44
  vl : Blk w b6 (vlC v B cv) 27
  le : Blk w b7 #[.int .i64 (m : Int)] 3
theorem CpS.kept {A : Option Addr} {l : List Nd} {c a : Nat} {n : Nd} {v : Vl} {B : Option Addr} {cv m b3 b4 b5 b6 b7 H : Nat} {w w' : World} (h : CpS A l c a n v B cv m b3 b4 b5 b6 b7 w) (k : Kp H w w') : CpS A l c a n v B cv m b3 b4 b5 b6 b7 w' :=
  ⟨k.typ _ _ _ (by decide) h.wr, k.typ _ _ _ (by decide) h.ix, k.typ _ _ _ (by decide) h.nd, k.typ _ _ _ (by decide) h.vl, k.typ _ _ _ (by decide) h.le⟩
theorem CpS.later {A : Option Addr} {l : List Nd} {c a : Nat} {n : Nd} {v : Vl} {B : Option Addr} {cv m b3 b4 b5 b6 b7 : Nat} {w w' : World} (h : CpS A l c a n v B cv m b3 b4 b5 b6 b7 w) (k : Below w.heap.size w w') : CpS A l c a n v B cv m b3 b4 b5 b6 b7 w' :=
  ⟨h.wr.later k, h.ix.later k, h.nd.later k, h.vl.later k, h.le.later k⟩
/-- The closure. -/
def fKd (b3 b4 b5 b6 b7 : Nat) : Value := .func (.func 43) #[] #[.pointer (some ⟨b3, 0, none⟩), .pointer (some ⟨b4, 0, none⟩), .pointer (some ⟨b5, 0, none⟩), .pointer (some ⟨b6, 0, none⟩), .pointer (some ⟨b7, 0, none⟩)]
structure CqS (w0 : World) (A : Option Addr) (l : List Nd) (c a : Nat) (n : Nd) (v : Vl) (B : Option Addr) (cv m b3 b4 b5 b6 b7 : Nat) (y : Vl) (Y : Option Addr) (cy : Nat) (w : World) : Prop where
  bel : Below w0.heap.size w0 w
  cp : CpS A l c a n v B cv m b3 b4 b5 b6 b7 w
  bx : Blk w w0.heap.size (vlC y Y cy) 27
theorem CqS.later {w0 w w' : World} {A : Option Addr} {l : List Nd} {c a : Nat} {n : Nd} {v : Vl} {B : Option Addr} {cv m b3 b4 b5 b6 b7 : Nat} {y : Vl} {Y : Option Addr} {cy : Nat} (h : CqS w0 A l c a n v B cv m b3 b4 b5 b6 b7 y Y cy w) (hb : Below w.heap.size w w') : CqS w0 A l c a n v B cv m b3 b4 b5 b6 b7 y Y cy w' :=
  ⟨h.bel.trans (hb.mono h.bel.size), h.cp.later hb, h.bx.later hb⟩
theorem CqS.kept {w0 w w' : World} {A : Option Addr} {l : List Nd} {c a : Nat} {n : Nd} {v : Vl} {B : Option Addr} {cv m b3 b4 b5 b6 b7 H : Nat} {y : Vl} {Y : Option Addr} {cy : Nat} (h : CqS w0 A l c a n v B cv m b3 b4 b5 b6 b7 y Y cy w) (k : Kp H w w') (hH : H ≤ w0.heap.size) : CpS A l c a n v B cv m b3 b4 b5 b6 b7 w' ∧ Kp H w0 w' :=
  ⟨h.cp.kept k, (Kp.of h.bel hH).trans k⟩
structure CrzS (w0 : World) (b7 m : Nat) (w : World) : Prop where
  bel : Below w0.heap.size w0 w
  le : Blk w b7 #[.int .i64 (m : Int)] 3
theorem CrzS.later {w0 w w' : World} {b7 m : Nat} (h : CrzS w0 b7 m w) (hb : Below w.heap.size w w') : CrzS w0 b7 m w' := ⟨h.bel.trans (hb.mono h.bel.size), h.le.later hb⟩
theorem own8_form {w : World} {B : Nat} {v : Value} {W : Wd} (h : Own8 w B v (nats W)) : ∃ A c, v = .slice A W.length c ∧ W.length ≤ c := by
  obtain ⟨_, ⟨hv, hn⟩ | ⟨g, cap, cur, hv, hb, hg, h1, h2, h3, h4⟩⟩ := h
  · rw [nats_length] at hn
    exact ⟨none, 0, by rw [hv, hn], by omega⟩
  · rw [nats_length] at hv h1
    exact ⟨_, cap, hv, h1⟩
set_option maxHeartbeats 16000000 in
theorem kidclo_any {w0 : World} {A : Option Addr} {l : List Nd} {c a : Nat} {n : Nd} {v : Vl} {B : Option Addr} {cv m b3 b4 b5 b6 b7 : Nat} (hm : m ≤ 1) (k q : Nat) (hkk : k < 4611686018427387904) (hq : kidN n v.pick k = (q : Int)) (hqa : q < a) (hal : a ≤ l.length) (hP : PartC w0 A l c q)
    (y : Vl) (Y : Option Addr) (cy : Nat) (hcy : y.kids.len ≤ cy) (hY : VRow w0 Y 0 y.kids) (W : Wd) (ow : Value) (hbd : W.length + 2002 * cntV y ≤ 536870912) (hlen : ∀ V, wrV l q y = some V → V.length ≤ 2002 * cntV y)
    (w : World) (hw : Below w0.heap.size w0 w) (ho : Own8 w w0.heap.size ow (nats W)) (h : CpS A l c a n v B cv m b3 b4 b5 b6 b7 w) :
    Calls Try.prog 43 #[ow, .int .i64 (k : Int), .agg (vlC y Y cy), .pointer (some ⟨b3, 0, none⟩), .pointer (some ⟨b4, 0, none⟩), .pointer (some ⟨b5, 0, none⟩), .pointer (some ⟨b6, 0, none⟩), .pointer (some ⟨b7, 0, none⟩)] w (GosP w0.heap.size W w (fitW m (wrV l q y))) := by
  have HS0 : Hid (CqS w A l c a n v B cv m b3 b4 b5 b6 b7 y Y cy (w.alloc (.cells (vlC y Y cy) 27))) := ⟨(Below.refl _ _).alloc (Nat.le_refl _) _, h.later ((Below.refl _ _).alloc (Nat.le_refl _) _), Blk.new _ _ _⟩
  have HO := Lib.hid ho
  have HW := Lib.hid hw
  have HPO : Hid (∀ w', Calls Try.prog 44 #[.agg (ndC n), .int .i64 v.pick, .int .i64 (k : Int)] w' (Ans w' (.int .i64 (q : Int)))) := fun w' => by rw [← hq]; exact vpart_any n v.pick k hkk w'
  have HPA : Hid (∀ w', CqS w A l c a n v B cv m b3 b4 b5 b6 b7 y Y cy w' → Calls Try.prog 25 #[.agg #[.slice A l.length c], ow, .agg (vlC y Y cy), .int .i64 (a : Int), .int .i64 (q : Int)] w' (GotP w0.heap.size W w' (wrV l q y))) :=
    fun w' h => hP a y Y cy W ow w' hqa hal hcy hY hbd (hw.trans (h.bel.mono hw.size)) (ho.later h.bel)
  have HL : Hid (∀ V, wrV l q y = some V → W.length + V.length ≤ 536870912) := fun V hV => by have := hlen V hV; omega
  have HF : Hid (∀ V, wrV l q y = some V → fitW m (wrV l q y) = if V.length < m then none else some V) := fun V hV => by rw [hV]; rfl
  have HN : Hid (wrV l q y = none → fitW m (wrV l q y) = none) := fun hV => by rw [hV]; rfl
  generalize fitW m (wrV l q y) = rf at *
  generalize wrV l q y = r at *
  obtain ⟨oA, oc, hov, hoc⟩ := own8_form ho
  clear h ho hw hP hY hcy hq hlen hbd
  subst hov
  obtain ⟨yk, yb, yt, yp, ys⟩ := y
  obtain ⟨nk, na, nb, nlo, nhi, ncls, ntext⟩ := n
  obtain ⟨vk, vb, vt, vp, ks⟩ := v
  unfold ndC at HPO
  rw [vlC_five] at *
  simp only at *
  have hoc2 : W.length ≤ 536870912 ∨ 536870912 < W.length := by omega
  go_enter Try.func43, Try.ntmps43
  go_upto_region 1 with (fail)
  generalize w.alloc (.cells #[.int .i64 yk, .int .u8 ((yb.toNat : Nat) : Int), .string (bs yt), .int .i64 yp, .slice Y ys.len cy] 27) = w1 at *
  have HBR : Hid (∀ w w', Below w.heap.size w w' → G.BlR w w') := fun _ _ h => h
  refine G.wp_region_stable_mid (R := G.BlR) HBR.out 9 #[true, true, true, true, true, true, true, true, true, false, false, false, false, false, false] (S := (CqS w A l c a ⟨nk, na, nb, nlo, nhi, ncls, ntext⟩ ⟨vk, vb, vt, vp, ks⟩ B cv m b3 b4 b5 b6 b7 ⟨yk, yb, yt, yp, ys⟩ Y cy)) (hSt := fun _ _ h hb => h.later hb) (plan := [[(3, none)], [(0, none)], [(10, none)], [(4, none)], [(5, none)], [(6, none)], [(21, some 5)], [(1, none)], [(20, some 4), (22, some 6), (23, some 7)]]) rfl (by kernel_rfl) (by kernel_rfl) (by kernel_rfl) (by kernel_rfl) ?hS ?_
  rotate_left
  iterate 9 first
    | (refine G.chain_skip (by rfl) (by rfl) ?_)
    | (apply G.chain_want (by rfl)
       · intro act wx hS hr
         simp at hr
         obtain ⟨y0, y1, y2, y3, y4⟩ := vl_cells hS.bx
         obtain ⟨p0, p1, p2, p3, p4⟩ := vl_cells hS.cp.vl
         obtain ⟨f0, f1, f2, f3, f4, f5, f6, f7, f8, f9⟩ := ten_cells hS.cp.nd
         have e3 := hS.cp.wr.cell 0
         have e4 := hS.cp.ix.cell 0
         have e7 := hS.cp.le.cell 0
         simp at e3 e4 e7
         go_simp
         (try go_ints)
         first
           | ((with_reducible refine (HPO.out _).mono ?_); rintro e w' ⟨rfl, hb⟩; exact G.Done.mk (HBR.out _ _ hb))
           | exact G.Done.same HBR.out
      )
  show ∀ w', _ → _
  intro wz hz
  simp [Act.put]
  case hS => exact HS0.out
  have HS2 := Lib.hid hz
  clear hz HS0
  refine wpAny_ready (rs := [9]) (by kernel_rfl) (by simp) ?_
  refine AllReady.cons rfl (fun K hK => ?_) AllReady.nil
  go_simp
  refine (HPA.out _ HS2.out).mono ?_; rintro e w3 ⟨x3, rfl, hx3, hk3⟩
  refine hK _ _ ?_; clear hK K
  obtain ⟨hcp3, hkp3⟩ := HS2.out.kept hk3 HW.out.size
  have HK3 := Lib.hid hkp3
  have HC3 : Hid (CrzS w3 b7 m w3) := ⟨Below.refl _ _, hcp3.le⟩
  clear hk3 hkp3 hcp3 HPA HPO HS2
  cases r with
  | none =>
    have hx3 : x3 = .tuple #[.slice none 0 0, .bool false] := hx3
    subst hx3
    have e := HN.out rfl
    subst e
    clear HF HN HL
    refine wpAny_take (i := 10) (v := ?_) rfl (by kernel_rfl) (by kernel_rfl) (by kernel_rfl) (fun _ _ _ h => h) (Or.inl ⟨by rfl, ?_⟩) ?_
    rotate_left
    · (intro w; go_simp; try with_reducible rfl)
    refine wpAny_take (i := 11) (v := ?_) rfl (by kernel_rfl) (by kernel_rfl) (by kernel_rfl) (fun _ _ _ h => h) (Or.inl ⟨by rfl, ?_⟩) ?_
    rotate_left
    · (intro w; go_simp; try with_reducible rfl)
    refine wpAny_take (i := 12) (v := ?_) rfl (by kernel_rfl) (by kernel_rfl) (by kernel_rfl) (fun _ _ _ h => h) (Or.inl ⟨by rfl, ?_⟩) ?_
    rotate_left
    · (intro w; go_simp; try with_reducible rfl)
    refine wpAny_take (i := 13) (v := ?_) rfl (by kernel_rfl) (by kernel_rfl) (by kernel_rfl) (fun _ _ _ h => h) (Or.inl ⟨by rfl, ?_⟩) ?_
    rotate_left
    · (intro w; go_simp; try with_reducible rfl)
    refine wpAny_take (i := 14) (v := ?_) rfl (by kernel_rfl) (by kernel_rfl) (by kernel_rfl) (fun _ _ _ h => h) (Or.inl ⟨by rfl, ?_⟩) ?_
    rotate_left
    · (intro w; go_simp; try with_reducible rfl)
    refine wpAny_done (by kernel_rfl) ?_ _
    simp [Act.put]
    go_upto_region 2 with (fail)
    refine wp_region_stable (S := (CrzS w3 b7 m)) (hSt := fun _ _ h hb => h.later hb) (plan := [[(13, none)], [(14, none)], [(29, some 1)], [(13, none)], [(31, some 3)], [(0, none)], [(33, some 5)], [(7, none)], [(34, some 6), (35, some 7)], [(32, some 4), (36, some 8)], [(30, some 2), (37, some 9)], [(28, some 0)], [(38, some 10)]]) (by kernel_rfl) (by kernel_rfl) (by kernel_rfl) ?hS ?_
    rotate_left
    iterate 13 first
      | (refine chain_skip (by rfl) (by rfl) ?_)
      | (apply chain_want (by rfl)
         · intro act wx hS hr
           simp at hr
           have e7 := hS.le.cell 0
           simp at e7
           go_simp
           (try go_ints)
           first
             | exact Done.same
        )
    show ∀ w', _ → _
    intro w4 hw4
    simp [Act.put]
    case hS => exact HC3.out
    have HK4 := Lib.hid (HK3.out.trans (Kp.of hw4.bel (Nat.le_trans HW.out.size HK3.out.size)))
    have HB4 := Lib.hid hw4.bel
    clear hw4 HC3
    go_wp2
    go_ret2
    exact ⟨_, rfl, ⟨_, rfl⟩, HK4.out⟩
  | some V =>
    obtain ⟨v3, rfl, ho3⟩ := hx3
    have HO3 := Lib.hid ho3
    have hb := HL.out V rfl
    have e := HF.out V rfl
    obtain ⟨A3, c3, rfl, hc3⟩ := own8_form ho3
    clear ho3 HF HN HL
    rw [List.length_append] at hc3
    have hl3 : (((W ++ V).length : Nat) : Int) = (W.length : Int) + (V.length : Int) := by rw [List.length_append]; omega
    by_cases hs : V.length < m
    · rw [if_pos hs] at e
      subst e
      have ht : ¬ ((W.length : Int) + (m : Int) ≤ ((W ++ V).length : Int)) := by omega
      have htd : decide ((W.length : Int) + (m : Int) ≤ ((W ++ V).length : Int)) = false := decide_eq_false ht
      clear hl3 hs hc3
      generalize (W ++ V).length = n3 at *
      have hi : (W.length : Int) + (m : Int) ≤ 1073741824 := by omega
      refine wpAny_take (i := 10) (v := ?_) rfl (by kernel_rfl) (by kernel_rfl) (by kernel_rfl) (fun _ _ _ h => h) (Or.inl ⟨by rfl, ?_⟩) ?_
      rotate_left
      · (intro w; go_simp; try with_reducible rfl)
      refine wpAny_take (i := 11) (v := ?_) rfl (by kernel_rfl) (by kernel_rfl) (by kernel_rfl) (fun _ _ _ h => h) (Or.inl ⟨by rfl, ?_⟩) ?_
      rotate_left
      · (intro w; go_simp; try with_reducible rfl)
      refine wpAny_take (i := 12) (v := ?_) rfl (by kernel_rfl) (by kernel_rfl) (by kernel_rfl) (fun _ _ _ h => h) (Or.inl ⟨by rfl, ?_⟩) ?_
      rotate_left
      · (intro w; go_simp; try with_reducible rfl)
      refine wpAny_take (i := 13) (v := ?_) rfl (by kernel_rfl) (by kernel_rfl) (by kernel_rfl) (fun _ _ _ h => h) (Or.inl ⟨by rfl, ?_⟩) ?_
      rotate_left
      · (intro w; go_simp; try with_reducible rfl)
      refine wpAny_take (i := 14) (v := ?_) rfl (by kernel_rfl) (by kernel_rfl) (by kernel_rfl) (fun _ _ _ h => h) (Or.inl ⟨by rfl, ?_⟩) ?_
      rotate_left
      · (intro w; go_simp; try with_reducible rfl)
      refine wpAny_done (by kernel_rfl) ?_ _
      simp [Act.put]
      go_upto_region 2 with (fail)
      refine wp_region_stable (S := (CrzS w3 b7 m)) (hSt := fun _ _ h hb => h.later hb) (plan := [[(13, none)], [(14, none)], [(29, some 1)], [(13, none)], [(31, some 3)], [(0, none)], [(33, some 5)], [(7, none)], [(34, some 6), (35, some 7)], [(32, some 4), (36, some 8)], [(30, some 2), (37, some 9)], [(28, some 0)], [(38, some 10)]]) (by kernel_rfl) (by kernel_rfl) (by kernel_rfl) ?hS ?_
      rotate_left
      iterate 13 first
        | (refine chain_skip (by rfl) (by rfl) ?_)
        | (apply chain_want (by rfl)
           · intro act wx hS hr
             simp at hr
             have e7 := hS.le.cell 0
             simp at e7
             go_simp
             (try go_ints)
             first
               | exact Done.same
          )
      show ∀ w', _ → _
      intro w4 hw4
      simp [Act.put]
      case hS => exact HC3.out
      have HK4 := Lib.hid (HK3.out.trans (Kp.of hw4.bel (Nat.le_trans HW.out.size HK3.out.size)))
      have HB4 := Lib.hid hw4.bel
      clear hw4 HC3
      go_wp2
      go_ret2
      exact ⟨_, rfl, ⟨_, rfl⟩, HK4.out⟩
    · rw [if_neg hs] at e
      subst e
      have ht : (W.length : Int) + (m : Int) ≤ ((W ++ V).length : Int) := by omega
      have htd : decide ((W.length : Int) + (m : Int) ≤ ((W ++ V).length : Int)) = true := decide_eq_true ht
      have HG : Hid (∀ w4, Below w3.heap.size w3 w4 → GosV w0.heap.size W (some V) (.tuple #[.slice A3 (W ++ V).length c3, .bool true]) w4) := fun w4 h => ⟨_, rfl, HO3.out.later h⟩
      clear hl3 hs hc3 HO3
      generalize (W ++ V).length = n3 at *
      have hi : (W.length : Int) + (m : Int) ≤ 1073741824 := by omega
      refine wpAny_take (i := 10) (v := ?_) rfl (by kernel_rfl) (by kernel_rfl) (by kernel_rfl) (fun _ _ _ h => h) (Or.inl ⟨by rfl, ?_⟩) ?_
      rotate_left
      · (intro w; go_simp; try with_reducible rfl)
      refine wpAny_take (i := 11) (v := ?_) rfl (by kernel_rfl) (by kernel_rfl) (by kernel_rfl) (fun _ _ _ h => h) (Or.inl ⟨by rfl, ?_⟩) ?_
      rotate_left
      · (intro w; go_simp; try with_reducible rfl)
      refine wpAny_take (i := 12) (v := ?_) rfl (by kernel_rfl) (by kernel_rfl) (by kernel_rfl) (fun _ _ _ h => h) (Or.inl ⟨by rfl, ?_⟩) ?_
      rotate_left
      · (intro w; go_simp; try with_reducible rfl)
      refine wpAny_take (i := 13) (v := ?_) rfl (by kernel_rfl) (by kernel_rfl) (by kernel_rfl) (fun _ _ _ h => h) (Or.inl ⟨by rfl, ?_⟩) ?_
      rotate_left
      · (intro w; go_simp; try with_reducible rfl)
      refine wpAny_take (i := 14) (v := ?_) rfl (by kernel_rfl) (by kernel_rfl) (by kernel_rfl) (fun _ _ _ h => h) (Or.inl ⟨by rfl, ?_⟩) ?_
      rotate_left
      · (intro w; go_simp; try with_reducible rfl)
      refine wpAny_done (by kernel_rfl) ?_ _
      simp [Act.put]
      go_upto_region 2 with (fail)
      refine wp_region_stable (S := (CrzS w3 b7 m)) (hSt := fun _ _ h hb => h.later hb) (plan := [[(13, none)], [(14, none)], [(29, some 1)], [(13, none)], [(31, some 3)], [(0, none)], [(33, some 5)], [(7, none)], [(34, some 6), (35, some 7)], [(32, some 4), (36, some 8)], [(30, some 2), (37, some 9)], [(28, some 0)], [(38, some 10)]]) (by kernel_rfl) (by kernel_rfl) (by kernel_rfl) ?hS ?_
      rotate_left
      iterate 13 first
        | (refine chain_skip (by rfl) (by rfl) ?_)
        | (apply chain_want (by rfl)
           · intro act wx hS hr
             simp at hr
             have e7 := hS.le.cell 0
             simp at e7
             go_simp
             (try go_ints)
             first
               | exact Done.same
          )
      show ∀ w', _ → _
      intro w4 hw4
      simp [Act.put]
      case hS => exact HC3.out
      have HK4 := Lib.hid (HK3.out.trans (Kp.of hw4.bel (Nat.le_trans HW.out.size HK3.out.size)))
      have HB4 := Lib.hid hw4.bel
      clear hw4 HC3
      go_wp2
      go_ret2
      exact ⟨_, rfl, HG.out _ HB4.out, HK4.out⟩
end Go.Proofs.Ytgdlbahfmddkaaa
/- What all kids write, gathered: the program's walk. -/
namespace Go.Proofs.Ytgdlbahfmddkaaa
open Go Go.RowKit
set_option linter.unusedVariables false
set_option linter.unusedSimpArgs false
set_option maxRecDepth 100000

def GaL (H : Nat) (w : World) (W0 : Wd) (m : Nat) (rs : List (Option Wd)) (s : Vs) (x0 x13 : Value) (wr : World) : Prop :=
  ∃ (k : Nat) (W : Wd), k ≤ s.len ∧ x13 = .int .i64 (k : Int) ∧ Own8 wr H x0 (nats (W0 ++ W)) ∧ Acc m rs k W ∧ W.length ≤ 2002 * cntTo s k ∧ Kp H w wr
set_option maxHeartbeats 16000000 in
theorem gather_any {w0 : World} {A : Option Addr} {l : List Nd} {c a : Nat} {n : Nd} {v : Vl} {B : Option Addr} {cv m b3 b4 b5 b6 b7 : Nat} (hm : m ≤ 1) (hal : a ≤ l.length) (htx : ∀ n ∈ l, n.text.length ≤ 2000) (hP : ∀ q, q < a → PartC w0 A l c q)
    (hkid : ∀ k, k < v.kids.len → ∃ q : Nat, kidN n v.pick k = (q : Int) ∧ q < a) (hkr : VRow w0 B 0 v.kids) (W0 : Wd) (ow : Value) (hbd : W0.length + 2002 * cntVs v.kids ≤ 536870912)
    (w : World) (hw : Below w0.heap.size w0 w) (ho : Own8 w w0.heap.size ow (nats W0)) (h : CpS A l c a n v B cv m b3 b4 b5 b6 b7 w) :
    Calls Try.prog 42 #[ow, .slice B v.kids.len cv, fKd b3 b4 b5 b6 b7] w (GotP w0.heap.size W0 w (gthW m (wrS l (fun j => (kidN n v.pick j).toNat) v.kids))) := by
  have hsl : v.kids.len < 4611686018427387904 := by have := cntVs_len v.kids; omega
  have HRS : Hid (∀ k, k < v.kids.len → (wrS l (fun j => (kidN n v.pick j).toNat) v.kids)[k]? = some (wrV l (kidN n v.pick k).toNat (v.kids.at k))) := fun k hk => wrS_get l _ v.kids k hk
  have HRL : Hid ((wrS l (fun j => (kidN n v.pick j).toNat) v.kids).length = v.kids.len) := wrS_length l _ v.kids
  generalize wrS l (fun j => (kidN n v.pick j).toNat) v.kids = rs at *
  have HKC : Hid (∀ (k : Nat) (W : Wd) (x0 : Value) (Y : Option Addr) (cy : Nat) (w' : World), k < v.kids.len → (v.kids.at k).kids.len ≤ cy → VRow w0 Y 0 (v.kids.at k).kids → W.length ≤ 2002 * cntTo v.kids k → Kp w0.heap.size w w' → Own8 w' w0.heap.size x0 (nats (W0 ++ W)) →
      Calls Try.prog 43 #[x0, .int .i64 (k : Int), .agg (vlC (v.kids.at k) Y cy), .pointer (some ⟨b3, 0, none⟩), .pointer (some ⟨b4, 0, none⟩), .pointer (some ⟨b5, 0, none⟩), .pointer (some ⟨b6, 0, none⟩), .pointer (some ⟨b7, 0, none⟩)] w' (GosP w0.heap.size (W0 ++ W) w' (fitW m (wrV l (kidN n v.pick k).toNat (v.kids.at k))))) := fun k W x0 Y cy w' hk hcy hY hW hkp ho' => by
    obtain ⟨q, hq, hqa⟩ := hkid k hk
    have hqt : (kidN n v.pick k).toNat = q := by rw [hq]; rfl
    rw [hqt]
    have h1 := cntTo_succ hk
    have h2 : cntTo v.kids (k + 1) ≤ cntVs v.kids := cntTo_le v.kids (k + 1)
    refine kidclo_any hm k q (by omega) hq hqa hal (hP q hqa) (v.kids.at k) Y cy hcy hY (W0 ++ W) x0 ?_ (fun V hV => wrV_len htx _ _ _ hV) w' (hw.trans hkp.bel) ho' (h.kept hkp)
    rw [List.length_append]
    omega
  have HLW : Hid (∀ k V, k < v.kids.len → fitW m (wrV l (kidN n v.pick k).toNat (v.kids.at k)) = some V → V.length ≤ 2002 * cntV (v.kids.at k)) := fun k V hk hV => wrV_len htx _ _ _ (fit_some hV)
  have HCT : Hid (∀ k, k < v.kids.len → cntTo v.kids (k + 1) = cntTo v.kids k + cntV (v.kids.at k)) := fun k hk => cntTo_succ hk
  have HS0 : Hid (GaL w0.heap.size w W0 m rs v.kids ow (.int .i64 ((0 : Nat) : Int)) w) := ⟨0, [], Nat.zero_le _, rfl, by rw [List.append_nil]; exact ho, Acc.zero _ _, by simp, Kp.refl _ _⟩
  have HKR := Lib.hid hkr
  have HW0 := Lib.hid hw
  have hent := enters_of Try.func43 (by kernel_rfl) rfl
  obtain ⟨oA, oc, hov, hoc⟩ := own8_form ho
  clear hP hkid hkr hw ho h htx hbd
  generalize v.kids = ks at *
  subst hov
  unfold fKd
  go_enter Try.func42, Try.ntmps42
  go_wp2
  go_loopw [0, 13] (GaL w0.heap.size w W0 m rs ks) (fun _ x _ => ks.len - (intOf x).toNat)
  case atStart => exact HS0.out
  case round =>
    obtain ⟨k, W, hk, rfl, hown, hacc, hwl, hkp⟩ := hrel
    have HO := Lib.hid hown
    have HA := Lib.hid hacc
    have HKP := Lib.hid hkp
    obtain ⟨rA, rc, hrv, hrc⟩ := own8_form hown
    subst hrv
    clear hown hacc hkp HS0 hoc hrc
    by_cases hlt : k < ks.len
    · have hltz : (k : Int) < (ks.len : Int) := by omega
      have hrow := HKR.out.later (HW0.out.trans HKP.out.bel)
      obtain ⟨g, o, rfl, hg, hat⟩ := VRow.at_ hrow hlt
      have HC := Lib.hid (fun Y cy w' h1 h2 h3 h4 => HKC.out k W (.slice rA (W0 ++ W).length rc) Y cy w' hlt h1 h2 hwl h3 h4)
      have HLV := Lib.hid (fun V hV => HLW.out k V hlt hV)
      have HR := Lib.hid (HRS.out k hlt)
      have hct := HCT.out k hlt
      obtain ⟨g0, o0, hg0, -, hat0⟩ := VRow.at_ HKR.out hlt
      cases hg0
      obtain ⟨Y, cy, q0, hcell0, q6⟩ := hat0
      have hb0 : g < w0.heap.size := by
        obtain ⟨g1, o1, hg1, hl1, -⟩ := VRow.at_ HKR.out hlt
        cases hg1; exact hl1
      have hcell : ∀ j, j < 5 → wr.cell? ⟨g, o + (0 + k) * 5 + j, none⟩ = (vlC (ks.at k) Y cy)[j]? := fun j hj => ((HW0.out.trans HKP.out.bel).cell (p := ⟨g, o + (0 + k) * 5 + j, none⟩) hb0).trans (hcell0 j hj)
      have HC := Lib.hid (fun w' h3 h4 => HC.out Y cy w' q0 q6 h3 h4)
      clear hat hrow hcell0 q6 hg hb0 HRS HLW HKC HCT
      generalize wrV l (kidN n v.pick k).toNat (ks.at k) = r at *
      generalize hctk : cntTo ks k = ct at *
      generalize hctk1 : cntTo ks (k + 1) = ct1 at *
      generalize ks.at k = y at *
      have HCT := Lib.hid hct
      generalize cntV y = cy1 at *
      have HCT1 := Lib.hid hctk1
      clear hct hctk hctk1
      have HWL := Lib.hid hwl
      clear hwl
      obtain ⟨yk, yb, yt, yp, ys⟩ := y
      rw [vlC_five] at *
      rw [Nat.zero_add] at hcell
      have q1 := hcell 0 (by decide)
      have q2 := hcell 1 (by decide)
      have q3 := hcell 2 (by decide)
      have q4 := hcell 3 (by decide)
      have q5 := hcell 4 (by decide)
      simp at q1 q2 q3 q4 q5
      clear hcell
      simp only at q0
      have HLE : Hid ((W0 ++ W).length = (W0 ++ W).length) := rfl
      generalize hnn : (W0 ++ W).length = nn at *
      have HNN := Lib.hid hnn
      clear hnn HLE
      have HAL : Hid (Kp w0.heap.size wr (wr.alloc (.cells #[.int .i64 yk, .int .u8 ((yb.toNat : Nat) : Int), .string (bs yt), .int .i64 yp, .slice Y ys.len cy] 27))) := Kp.of ((Below.refl _ _).alloc (Nat.le_refl _) _) (Nat.le_trans HW0.out.size HKP.out.size)
      have HCW := Lib.hid (HC.out _ (HKP.out.trans HAL.out) (HO.out.later ((Below.refl _ _).alloc (Nat.le_refl _) _)))
      clear HC
      go_wp2_with fail
      refine HCW.out.mono ?_; rintro e w2 ⟨x2, rfl, hx2, hk2⟩
      have HK2 := Lib.hid (HKP.out.trans (HAL.out.trans hk2))
      clear hk2 HCW HAL q1 q2 q3 q4 q5
      cases hfit : fitW m r with
      | none =>
        rw [hfit] at hx2
        obtain ⟨v2, rfl⟩ := hx2
        have HE : Hid (gthW m rs = none) := HA.out.none HR.out hfit
        clear hfit
        go_wp2
        go_ret2
        exact ⟨_, rfl, by rw [HE.out]; rfl, HK2.out⟩
      | some V =>
        rw [hfit] at hx2
        obtain ⟨v2, rfl, ho2⟩ := hx2
        have HN : Hid (GaL w0.heap.size w W0 m rs ks v2 (.int .i64 ((k + 1 : Nat) : Int)) w2) := ⟨k + 1, W ++ V, by omega, rfl, by rw [← List.append_assoc]; exact ho2, HA.out.next HR.out hfit, by
          have := HLV.out V hfit
          rw [List.length_append, HCT1.out]
          have := HWL.out
          have := HCT.out
          omega, HK2.out⟩
        clear hfit ho2
        go_wp2
        go_roundw
        case rel => exact HN.out
        case measure => simp [intOf]; omega
    · obtain rfl : k = ks.len := by omega
      have hlast : ¬ ((ks.len : Nat) : Int) < (ks.len : Int) := by omega
      have HE : Hid (GotV w0.heap.size W0 (gthW m rs) (.tuple #[.slice rA (W0 ++ W).length rc, .bool true]) wr) := by
        unfold Hid
        rw [HA.out.end (by rw [HRL.out]; exact Nat.le_refl _)]
        exact ⟨_, rfl, HO.out⟩
      generalize (W0 ++ W).length = nn at *
      go_wp2
      go_ret2
      exact ⟨_, rfl, HE.out, HKP.out⟩
end Go.Proofs.Ytgdlbahfmddkaaa
/- What the Kids of a value of a node write: the program's walk. -/
namespace Go.Proofs.Ytgdlbahfmddkaaa
open Go Go.RowKit
set_option linter.unusedVariables false
set_option linter.unusedSimpArgs false
set_option maxRecDepth 100000

def KidsC (w0 : World) (A : Option Addr) (l : List Nd) (c : Nat) (a : Nat) (v : Vl) : Prop := ∀ (B : Option Addr) (cv : Nat) (W : Wd) (ow : Value) (w : World), v.kids.len ≤ cv → VRow w0 B 0 v.kids → W.length + 2002 * cntVs v.kids ≤ 536870912 → Below w0.heap.size w0 w → Own8 w w0.heap.size ow (nats W) →
  Calls Try.prog 36 #[.agg #[.slice A l.length c], ow, .agg (vlC v B cv), .int .i64 (a : Int)] w (GotP w0.heap.size W w (gthW (leastK (atN l a)) (wrS l (fun j => (kidN (atN l a) v.pick j).toNat) v.kids)))
set_option maxHeartbeats 16000000 in
theorem kids_any {w0 : World} {A : Option Addr} {l : List Nd} {c a : Nat} (hc : l.length ≤ c) (hal : a < l.length) (hlen : l.length ≤ 536870912) (htx : ∀ n ∈ l, n.text.length ≤ 2000) (hP : ∀ q, q < a → PartC w0 A l c q) (hrow : NRow w0 A l) (v : Vl)
    (hkid : ∀ k, k < v.kids.len → ∃ q : Nat, kidN (atN l a) v.pick k = (q : Int) ∧ q < a) : KidsC w0 A l c a v := by
  intro B cv W0 ow w hcv hkr hbd hw ho
  have HG : Hid (∀ (w' : World) (m : Nat), m ≤ 1 → ∀ b3 b4 b5 b6 b7, CpS A l c a (atN l a) v B cv m b3 b4 b5 b6 b7 w' → Kp w0.heap.size w w' → Below w.heap.size w w' → Calls Try.prog 42 #[ow, .slice B v.kids.len cv, fKd b3 b4 b5 b6 b7] w' (GotP w0.heap.size W0 w' (gthW m (wrS l (fun j => (kidN (atN l a) v.pick j).toNat) v.kids)))) :=
    fun w' m hm b3 b4 b5 b6 b7 h hk hb => gather_any hm (by omega) htx hP hkid hkr W0 ow hbd w' (hw.trans hk.bel) (ho.later hb) h
  have HW0 := Lib.hid hw
  obtain ⟨ba, oa, rfl, hbl, -⟩ := hrow a hal
  have hiz : (a : Int) < (l.length : Int) := by omega
  have hrw := hrow.later hw
  obtain ⟨oA, oc, hov, hoc⟩ := own8_form ho
  subst hov
  have hn2 : l.getD a nd0 = atN l a := rfl
  have HLK : Hid (leastK (atN l a) = if (atN l a).kind = 6 ∨ (atN l a).kind = 7 then 1 else 0) := rfl
  generalize wrS l (fun j => (kidN (atN l a) v.pick j).toNat) v.kids = rs at *
  generalize leastK (atN l a) = mm at *
  generalize atN l a = n at *
  have HRW : Hid (∀ w', Below w.heap.size w w' → At10 w' ba (oa + a * 10) n) := fun w' h => by
    have := (hrw.later h).at hal rfl
    rw [hn2] at this
    exact this
  have HB1X : Hid (Below w.heap.size w (((w.alloc (.cells #[.slice (some ⟨ba, oa, none⟩) l.length c] 55)).alloc (.cells (vlC v B cv) 27)).alloc (.cells #[.int .i64 (a : Int)] 3))) :=
    (((Below.refl _ _).alloc (Nat.le_refl _) _).alloc (by simp) _).alloc (by simp; omega) _
  have HB1W : Hid (Blk (((w.alloc (.cells #[.slice (some ⟨ba, oa, none⟩) l.length c] 55)).alloc (.cells (vlC v B cv) 27)).alloc (.cells #[.int .i64 (a : Int)] 3)) w.heap.size #[.slice (some ⟨ba, oa, none⟩) l.length c] 55) := ((Blk.new _ _ _).alloc _).alloc _
  have HB1V : Hid (Blk (((w.alloc (.cells #[.slice (some ⟨ba, oa, none⟩) l.length c] 55)).alloc (.cells (vlC v B cv) 27)).alloc (.cells #[.int .i64 (a : Int)] 3)) (w.heap.size + 1) (vlC v B cv) 27) := (Blk.new' (by simp) _ _).alloc _
  have HB1I : Hid (Blk (((w.alloc (.cells #[.slice (some ⟨ba, oa, none⟩) l.length c] 55)).alloc (.cells (vlC v B cv) 27)).alloc (.cells #[.int .i64 (a : Int)] 3)) (w.heap.size + 2) #[.int .i64 (a : Int)] 3) := Blk.new' (by simp) _ _
  have HSZ : Hid ((((w.alloc (.cells #[.slice (some ⟨ba, oa, none⟩) l.length c] 55)).alloc (.cells (vlC v B cv) 27)).alloc (.cells #[.int .i64 (a : Int)] 3)).heap.size = w.heap.size + 3) := by unfold Hid; simp
  clear hrow hkr ho hw hP hkid htx hbd hrw hn2 hoc
  obtain ⟨vk, vb, vt, vp, ks⟩ := v
  obtain ⟨nk, na, nb, nlo, nhi, ncls, ntext⟩ := n
  rw [vlC_five] at *
  simp only at *
  unfold fKd at HG
  go_enter Try.func36, Try.ntmps36
  go_upto_region 1 with (fail)
  generalize (((w.alloc (.cells #[.slice (some ⟨ba, oa, none⟩) l.length c] 55)).alloc (.cells #[.int .i64 vk, .int .u8 ((vb.toNat : Nat) : Int), .string (bs vt), .int .i64 vp, .slice B ks.len cv] 27)).alloc (.cells #[.int .i64 (a : Int)] 3)) = w1 at *
  have HB1 := Lib.hid HB1X.out
  have hsz1 := HSZ.out
  obtain ⟨g0, g1, g2, g3, g4, g5, g6, g7, g8, g9⟩ := HRW.out _ HB1X.out
  simp only at g0 g1 g2 g3 g4 g5 g6 g7 g8 g9
  have e0 := HB1W.out.cell 0
  have e1 := HB1I.out.cell 0
  obtain ⟨b0, b1, b2, b3, b4⟩ := vl_cells HB1V.out
  simp at e0 e1
  by_cases h6 : nk = 6
  · have z6 : (nk == 6) = true := by simp [h6]
    have z7 : (nk == 7) = false := by rw [beq_eq_false_iff_ne]; omega
    have e : mm = 1 := by rw [HLK.out, if_pos (.inl h6)]
    clear HLK h6
    subst e
    go_upto_region 5 with (fail)
    have HKW : Hid (Kp w0.heap.size w (((w1.alloc (.cells #[.int .i64 nk, .int .i64 na, .int .i64 nb, .int .i64 nlo, .int .i64 nhi, .int .u64 (wd ncls 0), .int .u64 (wd ncls 1), .int .u64 (wd ncls 2), .int .u64 (wd ncls 3), .string (bs ntext)] 44)).alloc (.cells #[.int .i64 1] 3)))) :=
      Kp.of (((HB1.out.alloc (by have := HB1.out.size; omega) _).alloc (by simp; have := HB1.out.size; omega) _)) HW0.out.size
    have HBW : Hid (Below w.heap.size w (((w1.alloc (.cells #[.int .i64 nk, .int .i64 na, .int .i64 nb, .int .i64 nlo, .int .i64 nhi, .int .u64 (wd ncls 0), .int .u64 (wd ncls 1), .int .u64 (wd ncls 2), .int .u64 (wd ncls 3), .string (bs ntext)] 44)).alloc (.cells #[.int .i64 1] 3)))) :=
      ((HB1.out.alloc (by have := HB1.out.size; omega) _).alloc (by simp; have := HB1.out.size; omega) _)
    have HCP : Hid (CpS (some ⟨ba, oa, none⟩) l c a ⟨nk, na, nb, nlo, nhi, ncls, ntext⟩ ⟨vk, vb, vt, vp, ks⟩ B cv 1 w.heap.size (w.heap.size + 2) (w.heap.size + 3) (w.heap.size + 1) (w.heap.size + 4) (((w1.alloc (.cells #[.int .i64 nk, .int .i64 na, .int .i64 nb, .int .i64 nlo, .int .i64 nhi, .int .u64 (wd ncls 0), .int .u64 (wd ncls 1), .int .u64 (wd ncls 2), .int .u64 (wd ncls 3), .string (bs ntext)] 44)).alloc (.cells #[.int .i64 1] 3)))) :=
      ⟨(HB1W.out.alloc _).alloc _, (HB1I.out.alloc _).alloc _, (Blk.new' HSZ.out.symm _ _).alloc _, (HB1V.out.alloc _).alloc _, Blk.new' (by simp; have := HSZ.out; omega) _ _⟩
    go_wp2_with fail
    refine (HG.out _ 1 (by decide) _ _ _ _ _ HCP.out HKW.out HBW.out).mono ?_; rintro e w5 ⟨x5, rfl, hx5, hk5⟩
    have HK5 := Lib.hid (HKW.out.trans hk5)
    clear hk5 HG HKW HCP HBW
    generalize gthW 1 rs = r at *
    cases r with
    | none =>
      have hx5 : x5 = .tuple #[.slice none 0 0, .bool false] := hx5
      subst hx5
      go_wp2
      go_ret2
      exact ⟨_, rfl, rfl, HK5.out⟩
    | some V =>
      obtain ⟨v5, rfl, ho5⟩ := hx5
      have HO5 := Lib.hid ho5
      clear ho5
      go_wp2
      go_ret2
      exact ⟨_, rfl, ⟨_, rfl, HO5.out⟩, HK5.out⟩
  · by_cases h7 : nk = 7
    · have z6 : (nk == 6) = false := by rw [beq_eq_false_iff_ne]; omega
      have z7 : (nk == 7) = true := by simp [h7]
      have e : mm = 1 := by rw [HLK.out, if_pos (.inr h7)]
      clear HLK h6 h7
      subst e
      go_upto_region 5 with (fail)
      have HKW : Hid (Kp w0.heap.size w (((w1.alloc (.cells #[.int .i64 nk, .int .i64 na, .int .i64 nb, .int .i64 nlo, .int .i64 nhi, .int .u64 (wd ncls 0), .int .u64 (wd ncls 1), .int .u64 (wd ncls 2), .int .u64 (wd ncls 3), .string (bs ntext)] 44)).alloc (.cells #[.int .i64 1] 3)))) :=
        Kp.of (((HB1.out.alloc (by have := HB1.out.size; omega) _).alloc (by simp; have := HB1.out.size; omega) _)) HW0.out.size
      have HBW : Hid (Below w.heap.size w (((w1.alloc (.cells #[.int .i64 nk, .int .i64 na, .int .i64 nb, .int .i64 nlo, .int .i64 nhi, .int .u64 (wd ncls 0), .int .u64 (wd ncls 1), .int .u64 (wd ncls 2), .int .u64 (wd ncls 3), .string (bs ntext)] 44)).alloc (.cells #[.int .i64 1] 3)))) :=
        ((HB1.out.alloc (by have := HB1.out.size; omega) _).alloc (by simp; have := HB1.out.size; omega) _)
      have HCP : Hid (CpS (some ⟨ba, oa, none⟩) l c a ⟨nk, na, nb, nlo, nhi, ncls, ntext⟩ ⟨vk, vb, vt, vp, ks⟩ B cv 1 w.heap.size (w.heap.size + 2) (w.heap.size + 3) (w.heap.size + 1) (w.heap.size + 4) (((w1.alloc (.cells #[.int .i64 nk, .int .i64 na, .int .i64 nb, .int .i64 nlo, .int .i64 nhi, .int .u64 (wd ncls 0), .int .u64 (wd ncls 1), .int .u64 (wd ncls 2), .int .u64 (wd ncls 3), .string (bs ntext)] 44)).alloc (.cells #[.int .i64 1] 3)))) :=
        ⟨(HB1W.out.alloc _).alloc _, (HB1I.out.alloc _).alloc _, (Blk.new' HSZ.out.symm _ _).alloc _, (HB1V.out.alloc _).alloc _, Blk.new' (by simp; have := HSZ.out; omega) _ _⟩
      go_wp2_with fail
      refine (HG.out _ 1 (by decide) _ _ _ _ _ HCP.out HKW.out HBW.out).mono ?_; rintro e w5 ⟨x5, rfl, hx5, hk5⟩
      have HK5 := Lib.hid (HKW.out.trans hk5)
      clear hk5 HG HKW HCP HBW
      generalize gthW 1 rs = r at *
      cases r with
      | none =>
        have hx5 : x5 = .tuple #[.slice none 0 0, .bool false] := hx5
        subst hx5
        go_wp2
        go_ret2
        exact ⟨_, rfl, rfl, HK5.out⟩
      | some V =>
        obtain ⟨v5, rfl, ho5⟩ := hx5
        have HO5 := Lib.hid ho5
        clear ho5
        go_wp2
        go_ret2
        exact ⟨_, rfl, ⟨_, rfl, HO5.out⟩, HK5.out⟩
    · have z6 : (nk == 6) = false := by rw [beq_eq_false_iff_ne]; exact h6
      have z7 : (nk == 7) = false := by rw [beq_eq_false_iff_ne]; exact h7
      have e : mm = 0 := by rw [HLK.out, if_neg (by omega)]
      clear HLK h6 h7
      subst e
      go_upto_region 5 with (fail)
      have HKW : Hid (Kp w0.heap.size w (((w1.alloc (.cells #[.int .i64 nk, .int .i64 na, .int .i64 nb, .int .i64 nlo, .int .i64 nhi, .int .u64 (wd ncls 0), .int .u64 (wd ncls 1), .int .u64 (wd ncls 2), .int .u64 (wd ncls 3), .string (bs ntext)] 44)).alloc (.cells #[.int .i64 0] 3)))) :=
        Kp.of (((HB1.out.alloc (by have := HB1.out.size; omega) _).alloc (by simp; have := HB1.out.size; omega) _)) HW0.out.size
      have HBW : Hid (Below w.heap.size w (((w1.alloc (.cells #[.int .i64 nk, .int .i64 na, .int .i64 nb, .int .i64 nlo, .int .i64 nhi, .int .u64 (wd ncls 0), .int .u64 (wd ncls 1), .int .u64 (wd ncls 2), .int .u64 (wd ncls 3), .string (bs ntext)] 44)).alloc (.cells #[.int .i64 0] 3)))) :=
        ((HB1.out.alloc (by have := HB1.out.size; omega) _).alloc (by simp; have := HB1.out.size; omega) _)
      have HCP : Hid (CpS (some ⟨ba, oa, none⟩) l c a ⟨nk, na, nb, nlo, nhi, ncls, ntext⟩ ⟨vk, vb, vt, vp, ks⟩ B cv 0 w.heap.size (w.heap.size + 2) (w.heap.size + 3) (w.heap.size + 1) (w.heap.size + 4) (((w1.alloc (.cells #[.int .i64 nk, .int .i64 na, .int .i64 nb, .int .i64 nlo, .int .i64 nhi, .int .u64 (wd ncls 0), .int .u64 (wd ncls 1), .int .u64 (wd ncls 2), .int .u64 (wd ncls 3), .string (bs ntext)] 44)).alloc (.cells #[.int .i64 0] 3)))) :=
        ⟨(HB1W.out.alloc _).alloc _, (HB1I.out.alloc _).alloc _, (Blk.new' HSZ.out.symm _ _).alloc _, (HB1V.out.alloc _).alloc _, Blk.new' (by simp; have := HSZ.out; omega) _ _⟩
      go_wp2_with fail
      refine (HG.out _ 0 (by decide) _ _ _ _ _ HCP.out HKW.out HBW.out).mono ?_; rintro e w5 ⟨x5, rfl, hx5, hk5⟩
      have HK5 := Lib.hid (HKW.out.trans hk5)
      clear hk5 HG HKW HCP HBW
      generalize gthW 0 rs = r at *
      cases r with
      | none =>
        have hx5 : x5 = .tuple #[.slice none 0 0, .bool false] := hx5
        subst hx5
        go_wp2
        go_ret2
        exact ⟨_, rfl, rfl, HK5.out⟩
      | some V =>
        obtain ⟨v5, rfl, ho5⟩ := hx5
        have HO5 := Lib.hid ho5
        clear ho5
        go_wp2
        go_ret2
        exact ⟨_, rfl, ⟨_, rfl, HO5.out⟩, HK5.out⟩
end Go.Proofs.Ytgdlbahfmddkaaa
