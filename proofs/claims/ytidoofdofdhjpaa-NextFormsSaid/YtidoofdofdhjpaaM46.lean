/- Items copied, and turned round: walked. -/
import Derived.Test.YtidoofdofdhjpaaM36
import Derived.Test.YtidoofdofdhjpaaM45
import Derived.Deep.MidRow
namespace Go.Proofs.Ytidoofdofdhjpaa
open Go Go.RowKit
set_option linter.unusedVariables false
set_option linter.unusedSimpArgs false
set_option maxRecDepth 100000
set_option maxHeartbeats 16000000

set_option maxRecDepth 100000 in
theorem wp_append_itL {w : World} {o : Oper} {a : Act} {K : Act → World → Prop} {Q : Exit → Act → World → Prop} (s x : Operand)
    (ho : o.op = .call { callee := .builtin .append, args := #[s, x], argTypes := #[25, 25] })
    (base : Nat) (v : Value) (l : List Itm) (hs : a.eval s = v) (hown : OwnIt w base v l)
    (b oo c : Nat) (r : List Itm) (hx : a.eval x = .slice (some ⟨b, oo, none⟩) r.length c) (hr : ItRow w (some ⟨b, oo, none⟩) r) (hlen : l.length + r.length < 1073741824) (hbase : base ≤ w.heap.size)
    (h : ∀ v' w', OwnIt w' base v' (l ++ r) → w.grownBy w' v.ownBlock → K (a.put o.dst v') w') : o.wp Try.prog a w K Q := by
  obtain ⟨ib, hib, hz0, hz1, hz2⟩ := info_parts infoIt
  obtain ⟨v', w', hrun, h2, h3, _⟩ := run_append_own (P := Try.prog) w base 25 o.type 44 ib _ 4 32 Try.underlying25 hib hz0 hz1 hz2 rfl (by decide) v l.length (flatIt l) hown ⟨b, oo, none⟩ r.length c (flatIt r) (by rw [flatIt_length]) hr.news (flatIt_ones r) (by unfold maxLen; omega) (by omega) hbase
  unfold Oper.wp execOp
  simp only [ho, resolve, invoke, builtin, Sem.run_bind, Sem.run_pure, Result.andThen_ok, List.map_toArray, List.map_cons, List.map_nil, hs, hx, hrun]
  exact h v' w' (by unfold OwnIt; rw [List.length_append, flatIt_append]; exact h2) h3
theorem wpList_append_itL {w : World} {ops : Array Oper} {rest : List Oper} {o : Oper} {a : Act} {Q : Exit → Act → World → Prop} (hgd : o.guard = none) (s x : Operand)
    (ho : o.op = .call { callee := .builtin .append, args := #[s, x], argTypes := #[25, 25] })
    (base : Nat) (v : Value) (l : List Itm) (hs : a.eval s = v) (hown : OwnIt w base v l)
    (b oo c : Nat) (r : List Itm) (hx : a.eval x = .slice (some ⟨b, oo, none⟩) r.length c) (hr : ItRow w (some ⟨b, oo, none⟩) r) (hlen : l.length + r.length < 1073741824) (hbase : base ≤ w.heap.size)
    (h : ∀ v' w', OwnIt w' base v' (l ++ r) → w.grownBy w' v.ownBlock → wpList Try.prog ops Q rest (a.put o.dst v') w') : wpList Try.prog ops Q (o :: rest) a w :=
  wpList_plain hgd fun K hK => wp_append_itL s x ho base v l hs hown b oo c r hx hr hlen hbase fun v' w' h1 h2 => hK _ _ (h v' w' h1 h2)
theorem it_append_emptyL (w : World) (V : Addr) (n cap : Nat) (A : Option Addr) (c : Nat) (t : TypeId) (hn : n ≤ cap) : (Builtin.append_ #[25, 25] t #[.slice (some V) n cap, .slice A 0 c]).run Try.prog w = .ok (.slice (some V) n cap) w := by
  obtain ⟨ib, hib, hz0, hz1, hz2⟩ := info_parts infoIt
  cases A with
  | none => simp [Builtin.append_, run_underlying Try.underlying25, sizeOf, typeInfo, hib, Builtin.lenOf, Builtin.firstCells, storeCells, hn]
  | some x =>
    have hf := run_firstCells_some (P := Try.prog) w ib.size 0 x 0 c [] (by simp) (by simp)
    simp [Builtin.append_, run_underlying Try.underlying25, sizeOf, typeInfo, hib, Builtin.lenOf, hf, storeCells, hn]
theorem own_empty (w : World) (B : Nat) (hB : B ≤ w.heap.size) : OwnIt (w.alloc (.cells #[] 44)) B (.slice (some ⟨w.heap.size, 0, none⟩) 0 0) [] :=
  ⟨rfl, .inr ⟨w.heap.size, 0, #[], rfl, hB, Blk.new w _ _, Nat.le_refl _, by decide, rfl, rfl⟩⟩
theorem eq_nilL (w : World) (a : Option Addr) (n c n' c' : Nat) : (binOp .eql 25 (.slice a n c) (.slice none n' c')).run Try.prog w = .ok (.bool a.isNone) w := Lib.run_eql_slice_nil w _ _ a n c n' c' Try.underlying25
def HcP (w : World) (l : List Itm) (e : Ending) (w' : World) : Prop := ∃ u, e = .returned u ∧ OwnIt w' w.heap.size u l ∧ Below w.heap.size w w'
/-- slices.Clone. -/
theorem hdClone_any (l : List Itm) (A : Option Addr) (c : Nat) (hl : l.length ≤ 1000000) (hn : A = none → c = 0) (w : World) (hrow : ItRow w A l) :
    Calls Try.prog 68 #[.slice A l.length c] w (HcP w l) := by
  cases A with
  | none =>
    have hl0 : l = [] := by
      cases l with
      | nil => rfl
      | cons x r => obtain ⟨b, o, h, -⟩ := hrow 0 (by simp); cases h
    subst hl0
    obtain rfl : c = 0 := hn rfl
    have hq := fun w => eq_nilL w none 0 0 0 0
    go_enter Try.func68, Try.ntmps68
    go_wp2
    go_ret
    exact ⟨_, rfl, OwnIt.nil0 _ _, Below.refl _ _⟩
  | some ad =>
    have HR := Lib.hid hrow
    have hq := fun w => eq_nilL w (some ad) l.length c 0 0
    go_enter Try.func68, Try.ntmps68
    go_upto_region 3 with (fail)
    have hb := (Below.refl w.heap.size w).alloc (Nat.le_refl _) (.cells #[] 44)
    have HO := Lib.hid (own_empty w w.heap.size (Nat.le_refl _))
    have HB := Lib.hid hb
    have HR2 := Lib.hid (HR.out.later hb)
    by_cases hne : 0 < l.length
    · obtain ⟨b, oo, hA, -, -⟩ := hrow 0 hne
      cases hA
      clear hrow hb HR hne
      go_wp2_with (refine wpList_append_itL rfl _ _ rfl w.heap.size _ [] rfl HO.out b oo c l rfl HR2.out (by simp; omega) HB.out.size ?_; intro v' w' h1 h2; obtain ⟨a7, k7, rfl, -⟩ := h1.row; have HP : Hid (HcP w l (.returned (.slice a7 ([] ++ l).length k7)) w') := ⟨_, rfl, by (rw [List.nil_append] at h1 ⊢; exact h1), HB.out.grown h2 HB.out.size (fun k hk => by (cases hk; exact Nat.le_refl _))⟩; clear h1 h2)
      go_ret
      exact HP.out
    · have hl0 : l = [] := List.length_eq_zero_iff.1 (by omega)
      subst hl0
      have hap := it_append_emptyL (w.alloc (.cells #[] 44)) ⟨w.heap.size, 0, none⟩ 0 0 (some ad) c
      have hap2 := fun t => hap t (Nat.le_refl _)
      clear hap hrow hb HR
      simp only [List.length_nil] at hq ⊢
      go_wp2
      go_ret
      exact ⟨_, rfl, HO.out, HB.out⟩
end Go.Proofs.Ytidoofdofdhjpaa
/- A head counted: walked. -/
namespace Go.Proofs.Ytidoofdofdhjpaa
open Go Go.RowKit
set_option linter.unusedVariables false
set_option linter.unusedSimpArgs false
set_option maxRecDepth 100000
set_option maxHeartbeats 16000000

/-- Nothing turned round. -/
theorem revI_none (A : Option Addr) (c : Nat) (w : World) : Calls Try.prog 69 #[.slice A 0 c] w (fun e w' => e = .returned (.tuple #[]) ∧ w' = w) := by
  go_enter Try.func69, Try.ntmps69
  go_wp2
  go_loopw [2, 3] (fun i j wr => i = .int .i64 0 ∧ j = .int .i64 (-1) ∧ wr = w) (fun i _ _ => 0)
  case atStart => exact ⟨rfl, rfl, rfl⟩
  case round =>
    obtain ⟨rfl, rfl, rfl⟩ := hrel
    go_wp2
    go_end0
    exact ⟨rfl, rfl⟩
/-- What is kept of heads: each once, in one way or two. -/
def HOk (HE : List HdE) : Prop := (HE.map HdE.s).Nodup ∧ ∀ e ∈ HE, 1 ≤ e.many ∧ e.many ≤ 2 ∧ e.s.length ≤ 1000
theorem mny_le {HE : List HdE} (h : HOk HE) (t : List Itm) : mnyE HE t ≤ 2 := by
  have h2 := h.2
  clear h
  induction HE with
  | nil => exact Nat.zero_le _
  | cons d L ih =>
    unfold mnyE
    split
    · exact (h2 d (List.mem_cons_self ..)).2.1
    · exact ih fun e he => h2 e (List.mem_cons_of_mem _ he)
theorem hok_put {HE : List HdE} {e : HdE} (h : HOk HE) (he : 1 ≤ e.many ∧ e.many ≤ 2 ∧ e.s.length ≤ 1000) : HOk (putE HE e) := ⟨put_nodup h.1, fun d hd => by
  rcases put_mem hd with rfl | hd
  · exact he
  · exact h.2 d hd⟩
def HaP (l : List Nd) (NA : Option Addr) (c wb m : Nat) (w0 : World) (f : Nat) (HE : List HdE) (Ah : List Itm) (v : Value) (k : Nat) (w : World) (e : Ending) (w' : World) : Prop :=
  e = .returned (.tuple #[]) ∧ ∃ HE', HwS l NA c wb m w0 Ah f HE' v w' ∧ HdK w0 wb w w' ∧ HOk HE' ∧ ∀ t, mnyE HE' t = if t = Ah then min 2 (mnyE HE Ah + k) else mnyE HE t
theorem field_br1 (A : Option Addr) (n c : Nat) (x : Int) (w : World) : (Instr.field 41 (.agg #[.slice A n c, .int .i64 x]) 1).run Try.prog w = .ok (.int .i64 x) w := by kernel_rfl
theorem hdWadd_any (l : List Nd) (NA : Option Addr) (c wb m : Nat) (w0 : World) (Ah : List Itm) (f : Nat) (HE : List HdE) (v : Value) (k : Nat) (hk : 1 ≤ k ∧ k ≤ 2) (w : World) (hs : HwS l NA c wb m w0 Ah f HE v w) (hl : Ah.length ≤ 1000) (hI : ItOk Ah) (hO : HOk HE) :
    Calls Try.prog 45 #[.pointer (some ⟨wb, 0, none⟩), .int .i64 (k : Int)] w (HaP l NA c wb m w0 f HE Ah v k w) := by
  have HS := Lib.hid hs
  obtain ⟨a, cp, hv, hcp, hrow⟩ := hs.own.row
  have hnn : a = none → cp = 0 := fun e => by
    subst e
    obtain ⟨-, ⟨h1, -⟩ | ⟨g, cap, cur, h1, -⟩⟩ := hs.own
    · rw [hv] at h1; injection h1
    · rw [hv] at h1; injection h1 with e1; cases e1
  have hcl := hdClone_any Ah.reverse a cp (by rw [List.length_reverse]; omega) hnn w hrow
  rw [List.length_reverse] at hcl hv
  have HCL := Lib.hid hcl
  clear hcl
  have c1 := hs.blk.cell 1
  simp [wkC] at c1
  subst hv
  have HLN : Hid (Ah.reverse.length = Ah.length) := List.length_reverse
  clear hs hrow hnn hcp
  go_enter Try.func45, Try.ntmps45
  go_wp2_with fail
  refine HCL.out.mono ?_
  rintro e w1 ⟨u, rfl, hu, hb⟩
  have HU := Lib.hid hu
  have HB := Lib.hid hb
  have HS1 := Lib.hid (HS.out.later hb)
  have HAP : Hid (Aprt (.slice a Ah.length cp) u) := by
    unfold Hid Aprt
    cases ho : u.ownBlock with
    | none => exact .inl rfl
    | some b =>
      refine .inr fun e => ?_
      obtain ⟨cur, h1, -⟩ := own_at HS.out.own e.symm
      obtain ⟨cur2, -, h2⟩ := own_at hu ho
      have := h1.lt
      omega
  have HRV : Hid (Calls Try.prog 69 #[u] w1 (fun e w' => e = .returned (.tuple #[]) ∧ OwnIt w' w.heap.size u Ah ∧ w1.grownBy w' u.ownBlock)) := by
    by_cases h0 : 0 < Ah.reverse.length
    · have := revI_any hu h0 (by rw [List.length_reverse]; omega)
      rw [List.reverse_reverse] at this
      exact this
    · have h1 : Ah = [] := List.length_eq_zero_iff.1 (by rw [List.length_reverse] at h0; omega)
      subst h1
      obtain ⟨a1, c1, hx, -, -⟩ := hu.row
      have := revI_none a1 c1 w1
      rw [hx]
      exact this.mono fun e w' h => ⟨h.1, by rw [h.2]; rw [hx] at hu; exact hu, by rw [h.2]; exact World.grownBy.refl _ _⟩
  obtain ⟨a1, k1, hux, -, -⟩ := hu.row
  rw [HLN.out] at hux
  subst hux
  clear hu hb HCL c1
  go_wp2_with fail
  refine HRV.out.mono ?_
  rintro e w2 ⟨rfl, hu2, hg2⟩
  have hk2 : HdK w0 wb w1 w2 := by
    refine HdK.grown (v := .slice a1 Ah.length k1) (x := Ah.reverse) ?_ HS1.out.size hg2
    exact (HU.out.lower HS.out.size)
  have hs2 : HwS l NA c wb m w0 Ah f HE (.slice a Ah.length cp) w2 := by
    have h := HS1.out
    refine ⟨h.bel.trans hk2.bel, h.row, (hg2.block _ h.blk.lt (fun e => own_not HU.out h.blk (by decide) e.symm)).trans h.blk, World.ownsRow.kept h.own hg2 ?_, (hg2.block _ h.map.lt (fun e => own_notm HU.out h.map e.symm)).trans h.map, h.hwb, h.hm, fun d hd => ⟨World.ownsRow.kept (h.ent d hd).1 hg2 ?_, (h.ent d hd).2⟩⟩
    · rcases HAP.out with h1 | h1
      · rw [h1]
        cases hh : Value.ownBlock (.slice a Ah.length cp) with
        | none => exact .inl rfl
        | some b => exact .inr (by simp)
      · exact .inr (Ne.symm h1)
    · cases hh : d.v.ownBlock with
      | none => exact .inl rfl
      | some b =>
        refine .inr fun e => ?_
        obtain ⟨cur, h1, -⟩ := own_at (HS.out.ent d hd).1 hh
        obtain ⟨cur2, -, h2⟩ := own_at HU.out e.symm
        have := h1.lt
        omega
  have HS2 := Lib.hid hs2
  have HU2 := Lib.hid (hu2.lower HS.out.size)
  have HK2 := Lib.hid ((HdK.of HS.out.size HB.out).trans hk2)
  obtain ⟨a2, c2, hx2, -, hr2⟩ := hu2.row
  cases hx2
  have HKY := Lib.hid (ikey_any Ah a1 k1 hl hI w2 hr2)
  clear hs2 hu2 hk2 hg2 hr2 HRV
  go_wp2_with fail
  refine HKY.out.mono ?_
  rintro e w3 ⟨rfl, hb3⟩
  have HS3 := Lib.hid (HS2.out.later hb3)
  have HU3 := Lib.hid (HU2.out.later hb3)
  have HK3 := Lib.hid (HK2.out.trans (.of HS2.out.size hb3))
  clear hb3 HKY
  obtain ⟨A9, n9, c9, hlk⟩ := run_lookup_h w3 m HE Ah HS3.out.map
  have hfd := field_br1 A9 n9 c9 (mnyE HE Ah : Int) w3
  have hmn := mny_le hO Ah
  obtain ⟨q, hq⟩ : ∃ q, mnyE HE Ah = q := ⟨_, rfl⟩
  have HQ := Lib.hid hq
  rw [hq] at hlk hfd hmn
  have hup := run_update_h w3 m HE ⟨Ah, a1, k1, min 2 (q + k)⟩ HS3.out.map
  have hcm : ((min 2 (q + k) : Nat) : Int) = min ((q : Int) + (k : Int)) 2 := by omega
  unfold brC at hup
  simp only at hup
  rw [hcm] at hup
  have d3 := HS3.out.blk.cell 3
  simp [wkC] at d3
  have hqz : (q : Int) ≤ 2 := by omega
  have hkz : (k : Int) ≤ 2 := by omega
  have hkz0 : (0 : Int) ≤ (k : Int) := by omega
  have HFN : Hid (HaP l NA c wb m w0 f HE Ah (.slice a Ah.length cp) k w (.returned (.tuple #[])) (putMapH w3 m (putE HE ⟨Ah, a1, k1, min 2 (q + k)⟩))) := by
    refine ⟨rfl, _, HS3.out.put HU3.out HAP.out, HK3.out.trans (HdK.put HS3.out.map HS3.out.hm), hok_put hO ⟨by simp only; omega, by simp only; omega, hl⟩, fun t => ?_⟩
    rw [mny_put, HQ.out]
  clear hq hcm hmn hO
  generalize putMapH w3 m (putE HE ⟨Ah, a1, k1, min 2 (q + k)⟩) = w4 at *
  generalize bs (stK Ah) = ky at *
  go_wp2
  go_end0
  exact HFN.out
end Go.Proofs.Ytidoofdofdhjpaa
/- A row of items passed: walked. -/
namespace Go.Proofs.Ytidoofdofdhjpaa
open Go Go.RowKit
set_option linter.unusedVariables false
set_option linter.unusedSimpArgs false
set_option maxRecDepth 100000
set_option maxHeartbeats 16000000

/-- What passing leaves: of so many ways ahead, those to what is reached, and those past it. -/
def HpP (l : List Nd) (NA : Option Addr) (c wb m : Nat) (w0 : World) (R : List (List Itm)) (Ah : List Itm) (f g : Nat) (HE : List HdE) (k : Nat) (w : World) (e : Ending) (w' : World) : Prop :=
  ∃ HE' v' f', e = .returned (.int .i64 ((min 2 (k * nilF R) : Nat) : Int)) ∧ HwS l NA c wb m w0 Ah f' HE' v' w' ∧ HdK w0 wb w w' ∧ HOk HE' ∧ (∀ t, mnyE HE' t = min 2 (mnyE HE t + k * hitF R Ah t)) ∧ f ≤ f' + (if k = 0 then 0 else g) ∧ f' ≤ f
/-- The contract of pass, up to a cost. -/
def PassC (l : List Nd) (NA : Option Addr) (c wb m : Nat) (w0 : World) (n : Nat) : Prop :=
  ∀ (x : Itm) (Ah : List Itm) (f : Nat) (HE : List HdE) (v : Value) (k : Nat) (w : World), HdF l x → (∀ y ∈ Ah, HdF l y) → HwS l NA c wb m w0 (x :: Ah) f HE v w → HOk HE → k ≤ 2 → f ≤ 1000000 → Ah.length ≤ 1000 →
    (k ≠ 0 → csI l x ≤ f ∧ csI l x ≤ n ∧ Ah.length + csI l x ≤ 900) →
    Calls Try.prog 44 #[.pointer (some ⟨wb, 0, none⟩), .int .i64 (k : Int)] w (HpP l NA c wb m w0 (rchS l [x]) Ah f (csI l x) HE k w)
def ThruC (l : List Nd) (NA : Option Addr) (c wb m : Nat) (w0 : World) (n : Nat) : Prop :=
  ∀ (r : List Itm) (Ah : List Itm) (f : Nat) (HE : List HdE) (v : Value) (k : Nat) (w : World), r.length ≤ 2 → (∀ y ∈ r, HdF l y) → (∀ y ∈ Ah, HdF l y) → HwS l NA c wb m w0 Ah f HE v w → HOk HE → 1 ≤ k → k ≤ 2 → f ≤ 1000000 →
    dpS l r ≤ f → dpS l r ≤ n → Ah.length + dpS l r + 1 ≤ 900 →
    Calls Try.prog 67 #[.pointer (some ⟨wb, 0, none⟩), .agg (rowC r).toArray, .int .i64 (k : Int)] w (HpP l NA c wb m w0 (rchS l r) Ah f (dpS l r) HE k w)
structure HtR (l : List Nd) (NA : Option Addr) (c wb m : Nat) (w0 : World) (r Ah : List Itm) (f : Nat) (HE : List HdE) (k : Nat) (ws : World) (j q f' : Nat) (HE' : List HdE) (v' : Value) (w : World) : Prop where
  s : HwS l NA c wb m w0 (r.drop j ++ Ah) f' HE' v' w
  k' : HdK w0 wb ws w
  ok : HOk HE'
  q2 : q ≤ 2
  hit : ∀ t, min 2 (mnyE HE' t + q * hitF (rchS l (r.drop j)) Ah t) = min 2 (mnyE HE t + k * hitF (rchS l r) Ah t)
  nil : min 2 (q * nilF (rchS l (r.drop j))) = min 2 (k * nilF (rchS l r))
  fu : f ≤ f' + dpS l r
  fq : q ≠ 0 → f + dpS l (r.drop j) ≤ f' + dpS l r
  fl : f' ≤ f
def HtL (l : List Nd) (NA : Option Addr) (c wb m : Nat) (w0 : World) (r Ah : List Itm) (f : Nat) (HE : List HdE) (k : Nat) (ws : World) (q i : Value) (w : World) : Prop :=
  ∃ (j q' f' : Nat) (HE' : List HdE) (v' : Value), j ≤ r.length ∧ i = .int .i64 (j : Int) ∧ q = .int .i64 (q' : Int) ∧ HtR l NA c wb m w0 r Ah f HE k ws j q' f' HE' v' w
section
variable {l : List Nd} {NA : Option Addr} {c wb m : Nat} {w0 : World} {r Ah : List Itm} {f : Nat} {HE : List HdE} {k : Nat} {ws : World} {j q f' : Nat} {HE' : List HdE} {v' : Value} {w w' : World}
theorem HtR.step (hR : Rgt l) (hr : ∀ y ∈ r, HdF l y) (h : HtR l NA c wb m w0 r Ah f HE k ws j q f' HE' v' w) (hj : j < r.length) {HE2 : List HdE} {v2 : Value} {f2 : Nat}
    (h2 : HwS l NA c wb m w0 (r.drop (j + 1) ++ Ah) f2 HE2 v2 w') (hk : HdK w0 wb w w') (ho : HOk HE2) (hm : ∀ t, mnyE HE2 t = min 2 (mnyE HE' t + q * hitF (rchS l [r.getD j it0]) (r.drop (j + 1) ++ Ah) t))
    (h3 : f' ≤ f2 + (if q = 0 then 0 else csI l (r.getD j it0))) (h4 : f2 ≤ f') : HtR l NA c wb m w0 r Ah f HE k ws (j + 1) (min 2 (q * nilF (rchS l [r.getD j it0]))) f2 HE2 v2 w' := by
  have hd : r.drop j = r.getD j it0 :: r.drop (j + 1) := by
    rw [List.drop_eq_getElem_cons hj, List.getD_eq_getElem?_getD, List.getElem?_eq_getElem hj]; rfl
  have hx : HdF l (r.getD j it0) := hr _ (by rw [List.getD_eq_getElem?_getD, List.getElem?_eq_getElem hj]; exact List.getElem_mem hj)
  have hrr : ∀ y ∈ r.drop (j + 1), HdF l y := fun y hy => hr y (List.mem_of_mem_drop hy)
  obtain ⟨b1, b2⟩ : HtR l NA c wb m w0 r Ah f HE k ws j q f' HE' v' w ∧ True := ⟨h, trivial⟩
  have hfq := h.fq
  rw [hd, dp_cons] at hfq
  refine ⟨h2, h.k'.trans hk, ho, Nat.min_le_left _ _, fun t => ?_, ?_, ?_, fun hq => ?_, Nat.le_trans h4 h.fl⟩
  · rw [hm t, (pass_round hR hx hrr Ah t (h := mnyE HE' t) (w := q)).1, ← hd]
    exact h.hit t
  · rw [(pass_round hR hx hrr Ah [] (h := 0) (w := q)).2, ← hd]
    exact h.nil
  · by_cases hq : q = 0
    · rw [if_pos hq] at h3; have := h.fu; omega
    · rw [if_neg hq] at h3; have := hfq hq; omega
  · have hq0 : q ≠ 0 := fun e => by rw [e] at hq; simp at hq
    have hn : nilF (rchS l [r.getD j it0]) ≠ 0 := fun e => by rw [e] at hq; simp at hq
    have hnu := nu_nil hR hx hn
    rw [if_neg hq0] at h3
    have := hfq hq0
    rw [if_pos hnu] at this
    omega
theorem HtR.end_ (h : HtR l NA c wb m w0 r Ah f HE k ws r.length q f' HE' v' w) (hk : k ≠ 0) : q = min 2 (k * nilF (rchS l r)) ∧ HwS l NA c wb m w0 Ah f' HE' v' w ∧ (∀ t, mnyE HE' t = min 2 (mnyE HE t + k * hitF (rchS l r) Ah t)) ∧ f ≤ f' + (if k = 0 then 0 else dpS l r) := by
  have h1 := h.nil
  have h2 := h.s
  have h3 := h.hit
  have h4 := h.q2
  rw [List.drop_length] at h1 h2
  rw [(hit_end (l := l) [] []).2, Nat.mul_one] at h1
  rw [List.nil_append] at h2
  refine ⟨by omega, h2, fun t => ?_, by rw [if_neg hk]; exact h.fu⟩
  have h5 := h3 t
  rw [List.drop_length, (hit_end (l := l) Ah t).1, Nat.mul_zero, Nat.add_zero] at h5
  have := mny_le h.ok t
  omega
end
theorem hd_thru {l : List Nd} {NA : Option Addr} {c wb m : Nat} {w0 : World} {n : Nat} (hR : Rgt l) (hP : PassC l NA c wb m w0 n) : ThruC l NA c wb m w0 n := by
  intro r Ah f HE v k w hr2 hr hA hs hO hk1 hk2 hf hd1 hd2 hl
  have HS := Lib.hid hs
  have hb := (Below.refl w.heap.size w).alloc (Nat.le_refl _) (.cells (rowC r).toArray 110)
  have hz := Blk.new w (rowC r).toArray 110
  have HM : Hid ((rowC r).toArray[8]? = some (.int .i64 (r.length : Int))) := by
    unfold Hid rowC
    rw [List.getElem?_toArray, List.getElem?_append_right (by rw [flatIt_length, List.length_append, List.length_replicate]; omega), flatIt_length, List.length_append, List.length_replicate, show 8 - (r.length + (2 - r.length)) * 4 = 0 by omega]
    rfl
  have HS1 := Lib.hid (hs.later hb)
  have HZ := Lib.hid hz
  have HB := Lib.hid hb
  have HRW : Hid (∀ w', Blk w' w.heap.size (rowC r).toArray 110 → ItRow w' (some ⟨w.heap.size, 0, none⟩) r) := fun w' h i hi => by
    refine ⟨w.heap.size, 0, rfl, h.lt, fun j hj => ?_⟩
    rw [h.cell, List.getElem?_toArray]
    unfold rowC
    have h1 := flatIt_get (r ++ List.replicate (2 - r.length) it0) i j (by rw [List.length_append]; omega) hj
    rw [Nat.zero_add, List.getElem?_append_left (by rw [flatIt_length, List.length_append]; omega), h1]
    congr 2
    rw [List.getD_eq_getElem?_getD, List.getD_eq_getElem?_getD, List.getElem?_append_left hi]
  clear hs hb hz
  go_enter Try.func67, Try.ntmps67
  go_upto_region 1 with (fail)
  generalize w.alloc (.cells (rowC r).toArray 110) = w1 at *
  have e8 := HZ.out.cell 8
  rw [HM.out] at e8
  have hlz : (r.length : Int) ≤ 2 := by omega
  go_wp2_with fail
  have HWB : Hid (wb < w.heap.size) := HS.out.blk.lt
  refine (hdLay_any l NA c wb m w0 Ah f HE v r (some ⟨w.heap.size, 0, none⟩) 2 w1 HS1.out (by omega) (by omega) (fun w' hk => HRW.out w' (hk.typ _ _ _ HZ.out (by decide) (by have := HWB.out; omega)))).mono ?_
  rintro e w2 ⟨rfl, v2, hs2, hk2'⟩
  have HT0 : Hid (HtL l NA c wb m w0 r Ah f HE k w (.int .i64 (k : Int)) (.int .i64 0) w2) := ⟨0, k, f, HE, v2, Nat.zero_le _, rfl, rfl, ⟨hs2, (HdK.of HS.out.size HB.out).trans hk2', hO, hk2, fun t => by rw [List.drop_zero], by rw [List.drop_zero], by omega, fun _ => by rw [List.drop_zero]; exact Nat.le_refl _, Nat.le_refl _⟩⟩
  have e8 := (hk2'.typ _ _ _ HZ.out (by decide) (by have := HWB.out; omega)).cell 8
  rw [HM.out] at e8
  have HA := Lib.hid hA
  have HRR := Lib.hid hr
  have HD1 := Lib.hid hd1
  have HD2 := Lib.hid hd2
  have HLL := Lib.hid hl
  have HK1 := Lib.hid hk1
  have HFF := Lib.hid hf
  have HR2 := Lib.hid hr2
  clear hs2 hk2' hA hr hO hd1 hd2 hl hk1 hk2 hf HB HZ HRW HS1 hr2
  go_wp2
  go_loopw [2, 15] (HtL l NA c wb m w0 r Ah f HE k w) (fun _ i _ => r.length - (intOf i).toNat)
  case atStart => exact HT0.out
  case round =>
    obtain ⟨j, q, f', HE', v', hj, rfl, rfl, hh⟩ := hrel
    have HH := Lib.hid hh
    have HJ := Lib.hid hj
    clear hh
    by_cases hlt : j < r.length
    · have hz : (j : Int) < (r.length : Int) := by omega
      have HLT := Lib.hid hlt
      have hd : r.drop j = r.getD j it0 :: r.drop (j + 1) := by
        rw [List.drop_eq_getElem_cons hlt, List.getD_eq_getElem?_getD, List.getElem?_eq_getElem hlt]; rfl
      have HX : Hid (HdF l (r.getD j it0)) := HRR.out _ (by rw [List.getD_eq_getElem?_getD, List.getElem?_eq_getElem hlt]; exact List.getElem_mem hlt)
      have hs9 := HH.out.s
      have hq9 := HH.out.fq
      rw [hd, List.cons_append] at hs9
      rw [hd, dp_cons] at hq9
      have hdl : (r.drop (j + 1)).length ≤ 1 := by rw [List.length_drop]; have := HR2.out; omega
      have HPP := Lib.hid (hP (r.getD j it0) (r.drop (j + 1) ++ Ah) f' HE' v' q wr HX.out (hd_app (fun y hy => HRR.out y (List.mem_of_mem_drop hy)) HA.out) hs9 HH.out.ok HH.out.q2 (Nat.le_trans HH.out.fl HFF.out) (by rw [List.length_append]; have := HLL.out; omega) (fun hq => by
        have h1 := hq9 hq
        have h2 := HD1.out
        have h3 := HD2.out
        have h4 := HLL.out
        have h5 := HH.out.fl
        rw [List.length_append]
        refine ⟨by omega, by omega, by omega⟩))
      clear hs9 hq9 hd hlt hdl hj
      go_wp2_with fail
      refine HPP.out.mono ?_
      rintro e w3 ⟨HE2, v3, f2, rfl, g1, g2, g3, g4, g5, g6⟩
      have HN := Lib.hid (HH.out.step hR HRR.out HLT.out g1 g2 g3 g4 g5 g6)
      clear g1 g2 g3 g4 g5 g6 HPP
      generalize min 2 (q * nilF (rchS l [r.getD j it0])) = q2 at *
      go_wp2
      go_roundw
      case rel => exact ⟨j + 1, q2, f2, HE2, v3, HLT.out, by go_num, rfl, HN.out⟩
      case measure => have := HLT.out; simp [intOf] <;> omega
    · obtain rfl : j = r.length := by omega
      have hz : ¬ ((r.length : Nat) : Int) < (r.length : Int) := by omega
      obtain ⟨h1, h2, h3, h4⟩ := HH.out.end_ (by have := HK1.out; omega)
      have HP2 : Hid (HpP l NA c wb m w0 (rchS l r) Ah f (dpS l r) HE k w (.returned (.int .i64 (q : Int))) wr) := ⟨HE', v', f', by rw [h1], h2, HH.out.k', HH.out.ok, h3, h4, HH.out.fl⟩
      clear h1 h2 h3 h4
      go_wp2
      go_ret
      exact HP2.out
end Go.Proofs.Ytidoofdofdhjpaa
/- An item passed: walked. -/
namespace Go.Proofs.Ytidoofdofdhjpaa
open Go Go.RowKit
set_option linter.unusedVariables false
set_option linter.unusedSimpArgs false
set_option maxRecDepth 100000
set_option maxHeartbeats 16000000

structure HuR (l : List Nd) (NA : Option Addr) (c wb m : Nat) (w0 : World) (T : List (List Itm)) (Ah : List Itm) (f : Nat) (HE : List HdE) (k : Nat) (ws : World) (lb j p f' : Nat) (HE' : List HdE) (v' : Value) (w : World) : Prop where
  s : HwS l NA c wb m w0 Ah f' HE' v' w
  k' : HdK w0 wb ws w
  ok : HOk HE'
  bl : Blk w lb (rwsC T) 113
  p2 : p ≤ 2 * j
  hit : ∀ t, min 2 (mnyE HE' t + k * hitF ((T.drop j).flatMap (rchS l)) Ah t) = min 2 (mnyE HE t + k * hitF (T.flatMap (rchS l)) Ah t)
  nil : min 2 (p + k * nilF ((T.drop j).flatMap (rchS l))) = min 2 (k * nilF (T.flatMap (rchS l)))
  fu : f + dpR l (T.drop j) ≤ f' + dpR l T
  fl : f' ≤ f
def HuL (l : List Nd) (NA : Option Addr) (c wb m : Nat) (w0 : World) (T : List (List Itm)) (Ah : List Itm) (f : Nat) (HE : List HdE) (k : Nat) (ws : World) (lb : Nat) (p i : Value) (w : World) : Prop :=
  ∃ (j p' f' : Nat) (HE' : List HdE) (v' : Value), j ≤ T.length ∧ i = .int .i64 (j : Int) ∧ p = .int .i64 (p' : Int) ∧ HuR l NA c wb m w0 T Ah f HE k ws lb j p' f' HE' v' w
section
variable {l : List Nd} {NA : Option Addr} {c wb m : Nat} {w0 : World} {T : List (List Itm)} {Ah : List Itm} {f : Nat} {HE : List HdE} {k : Nat} {ws : World} {lb j p f' : Nat} {HE' : List HdE} {v' : Value} {w w1 w' : World}
theorem rows_drop (hj : j < T.length) : T.drop j = T.getD j [] :: T.drop (j + 1) := by
  rw [List.drop_eq_getElem_cons hj, List.getD_eq_getElem?_getD, List.getElem?_eq_getElem hj]; rfl
theorem HuR.later (h : HuR l NA c wb m w0 T Ah f HE k ws lb j p f' HE' v' w) (hb : Below w.heap.size w w') : HuR l NA c wb m w0 T Ah f HE k ws lb j p f' HE' v' w' :=
  ⟨h.s.later hb, h.k'.trans (.of h.s.size hb), h.ok, h.bl.later hb, h.p2, h.hit, h.nil, h.fu, h.fl⟩
theorem HuR.step (h : HuR l NA c wb m w0 T Ah f HE k ws lb j p f' HE' v' w) (hj : j < T.length) (hk : k ≠ 0) (hlb : lb ≠ wb) {e : Ending} (hp : HpP l NA c wb m w0 (rchS l (T.getD j [])) Ah f' (dpS l (T.getD j [])) HE' k w e w') :
    ∃ (HE2 : List HdE) (v2 : Value) (f2 : Nat), e = .returned (.int .i64 ((min 2 (k * nilF (rchS l (T.getD j []))) : Nat) : Int)) ∧ HuR l NA c wb m w0 T Ah f HE k ws lb (j + 1) (p + min 2 (k * nilF (rchS l (T.getD j [])))) f2 HE2 v2 w' := by
  obtain ⟨HE2, v2, f2, he, g1, g2, g3, g4, g5, g6⟩ := hp
  refine ⟨HE2, v2, f2, he, g1, h.k'.trans g2, g3, g2.typ _ _ _ h.bl (by decide) hlb, by have := h.p2; omega, fun t => ?_, ?_, ?_, Nat.le_trans g6 h.fl⟩
  · rw [g4 t, (row_round (l := l) (T.getD j []) (T.drop (j + 1)) Ah t (h := mnyE HE' t) (w := k) (p := p)).1, ← rows_drop hj]
    exact h.hit t
  · rw [(row_round (l := l) (T.getD j []) (T.drop (j + 1)) Ah [] (h := 0) (w := k) (p := p)).2, ← rows_drop hj]
    exact h.nil
  · have h1 := h.fu
    rw [rows_drop hj, dpR_cons] at h1
    rw [if_neg hk] at g5
    omega
end
theorem dpR_drop (l : List Nd) : ∀ (j : Nat) (T : List (List Itm)), dpR l (T.drop j) ≤ dpR l T
  | 0, T => by rw [List.drop_zero]; exact Nat.le_refl _
  | j + 1, [] => by simp
  | j + 1, t :: T => by
    rw [List.drop_succ_cons, dpR_cons]
    have := dpR_drop l j T
    omega
theorem row_range {w : World} {lb : Nat} {T : List (List Itm)} (h : Blk w lb (rwsC T) 113) (hok : RwOk T) {j : Nat} (hj : j < 2) : w.rangeAt lb (j * 9) (rowC (T.getD j [])) := fun i v hv => by
  have hi : i < 9 := by rw [← rowC_len (hok.at j)]; exact (List.getElem?_eq_some_iff.1 hv).1
  rw [h.cell, rwsC_row hok hj hi]; exact hv
theorem rowC_info {r : List Itm} (h : r.length ≤ 2) : (Try.prog.info? 110).map (·.size) = some (rowC r).length := by rw [rowC_len h]; kernel_rfl
theorem rowC_infoA {r : List Itm} (h : r.length ≤ 2) : (Try.prog.info? 110).map (·.size) = some (rowC r).toArray.size := by rw [List.size_toArray]; exact rowC_info h
theorem rowC_ones {r : List Itm} : (rowC r).toArray.all (·.oneCell') = true := by
  rw [Array.all_eq_true_iff_forall_mem]
  intro v hv
  unfold rowC at hv
  rw [List.mem_toArray] at hv
  rcases List.mem_append.1 hv with h | h
  · exact flatIt_ones _ v h
  · rw [List.mem_singleton.1 h]; rfl
theorem hd_itok {l : List Nd} (hF : Form l) (hlen : l.length ≤ 1000000) (htx : Txt l) {s : List Itm} (hs : ∀ y ∈ s, HdF l y) : ItOk s := fun x hm => by
  have hx := hs x hm
  have hk := hx.kind
  have hn : 0 ≤ x.node ∧ x.node ≤ 1000000 := by
    by_cases h5 : x.kind = 5
    · have := hx.stop h5; omega
    · have := hx.node h5; omega
  have hlh : (0 ≤ x.lo ∧ x.lo ≤ 281474976710656) ∧ 0 ≤ x.hi ∧ x.hi ≤ 1000 := by
    rcases (by omega : x.kind = 1 ∨ x.kind = 2 ∨ x.kind = 3 ∨ x.kind = 4 ∨ x.kind = 5) with h | h | h | h | h
    · have := hx.one h; omega
    · have h2 := hx.two h
      have h3 := hx.node (by omega)
      have hb : (atN l x.node.toNat).hi ≤ 255 := by
        cases hd_cs hF (show x.node.toNat < l.length by omega) with
        | leaf h1 hf => unfold leafK at h1; omega
        | one h1 hi0 ha hb h7 hr hcl hf => have := hr h2.1; omega
        | two h1 hi0 hb ha hf0 hl hcl hf => omega
      omega
    · have h2 := hx.three h
      have h3 := txt_at htx x.node.toNat
      omega
    · have := hx.four h; omega
    · have := hx.stop h; omega
  exact ⟨by omega, by omega, by omega, by omega⟩
structure HuS (l : List Nd) (NA : Option Addr) (c wb m : Nat) (w0 : World) (x : Itm) (Ah : List Itm) (f : Nat) (HE : List HdE) (v : Value) (ws : World) (xb : Nat) (w : World) : Prop where
  s : HwS l NA c wb m w0 (x :: Ah) f HE v w
  k' : HdK w0 wb ws w
  xb : Blk w xb (itV x) 44
theorem HuS.later {l : List Nd} {NA : Option Addr} {c wb m : Nat} {w0 : World} {x : Itm} {Ah : List Itm} {f : Nat} {HE : List HdE} {v : Value} {ws w w' : World} {xb : Nat} (h : HuS l NA c wb m w0 x Ah f HE v ws xb w) (hb : Below w.heap.size w w') : HuS l NA c wb m w0 x Ah f HE v ws xb w' :=
  ⟨h.s.later hb, h.k'.trans (.of h.s.size hb), h.xb.later hb⟩
structure HuQ (l : List Nd) (NA : Option Addr) (c wb m : Nat) (w0 : World) (x : Itm) (Ah : List Itm) (f : Nat) (HE : List HdE) (v : Value) (ws : World) (xb : Nat) (w : World) : Prop where
  s : HwS l NA c wb m w0 Ah f HE v w
  k' : HdK w0 wb ws w
  xb : Blk w xb (itV x) 44
theorem HuQ.later {l : List Nd} {NA : Option Addr} {c wb m : Nat} {w0 : World} {x : Itm} {Ah : List Itm} {f : Nat} {HE : List HdE} {v : Value} {ws w w' : World} {xb : Nat} (h : HuQ l NA c wb m w0 x Ah f HE v ws xb w) (hb : Below w.heap.size w w') : HuQ l NA c wb m w0 x Ah f HE v ws xb w' :=
  ⟨h.s.later hb, h.k'.trans (.of h.s.size hb), h.xb.later hb⟩
def NewR (n : Nat) (v : Value) (w : World) : Prop := ∃ b, v = .pointer (some ⟨b, 0, none⟩) ∧ n ≤ b ∧ Blk w b (rwsC []) 113
theorem NewR.later (n : Nat) (v : Value) (w w' : World) (h : NewR n v w) (hb : Below w.heap.size w w') : NewR n v w' := by
  obtain ⟨b, h1, h2, h3⟩ := h
  exact ⟨b, h1, h2, h3.later hb⟩
theorem HdK.late {w0 ws w w' : World} {wb lb : Nat} (h : HdK w0 wb ws w) (hn : ws.heap.size ≤ lb) (h0 : w0.heap.size ≤ ws.heap.size) (hg : w.grownBy w' (some lb)) (hlt : ws.heap.size ≤ w.heap.size) : HdK w0 wb ws w' :=
  ⟨bel_grown h.bel (by omega) hg (by omega), fun b cs t hb h1 h2 => (hg.block b (by have := hb.lt; omega) (fun e => by cases e; have := hb.lt; omega)).trans (h.typ b cs t hb h1 h2)⟩
theorem HwS.gbT {l : List Nd} {NA : Option Addr} {c wb m : Nat} {w0 w w' : World} {Ah : List Itm} {f : Nat} {HE : List HdE} {v : Value} (h : HwS l NA c wb m w0 Ah f HE v w) {b : Nat} {cs : Array Value} {t : TypeId} (hb : Blk w b cs t) (h1 : t ≠ 44) (h2 : t ≠ 81) (hg : w.grownBy w' (some b)) (h0 : w0.heap.size ≤ b) : HwS l NA c wb m w0 Ah f HE v w' := by
  have hkp : ∀ {u : Value} {x : List Itm}, OwnIt w w0.heap.size u x → OwnIt w' w0.heap.size u x := fun hu => World.ownsRow.kept hu hg (.inr (own_not hu hb h1))
  refine ⟨bel_grown h.bel h.size hg h0, h.row, (hg.block _ h.blk.lt (fun e => ?_)).trans h.blk, hkp h.own, (hg.block _ h.map.lt (fun e => ?_)).trans h.map, h.hwb, h.hm, fun e he => ⟨hkp (h.ent e he).1, (h.ent e he).2⟩⟩
  · cases e; exact blk_typ h.blk hb (Ne.symm h2) rfl
  · cases e
    have h3 := h.map
    unfold IsMapH at h3; unfold Blk at hb; rw [h3] at hb; cases hb
theorem hd_pass {l : List Nd} {NA : Option Addr} {c wb m : Nat} {w0 : World} {n : Nat} (hR : Rgt l) (hlen : l.length ≤ 1000000) (htx : Txt l) (hP : ∀ i, i < n → ThruC l NA c wb m w0 i) : PassC l NA c wb m w0 n := by
  intro x Ah f HE v k w hx hA hs hO hk2 hf hl0 hk
  have h0 := hR.1.1
  obtain ⟨g, cp, cur, hv, hg, hblk, hcap, hmax, hsz, htake⟩ := hs.own.blk (by rw [List.length_reverse]; simp)
  rw [List.length_reverse, List.length_cons] at hv
  subst hv
  have HS := Lib.hid hs
  have c0 := hs.blk.cell 0
  have c1 := hs.blk.cell 1
  have c2 := hs.blk.cell 2
  simp [wkC] at c0 c1 c2
  have hxa : At4 w g (Ah.length * 4) x := by
    have h1 := hs.own.rowAt
    have h2 := h1.at (i := Ah.length) (by rw [List.length_reverse]; simp) rfl
    rw [Nat.zero_add, List.reverse_cons, List.getD_eq_getElem?_getD, List.getElem?_append_right (by rw [List.length_reverse]; exact Nat.le_refl _), List.length_reverse, Nat.sub_self] at h2
    exact h2
  have HRD := Lib.hid (fun (w' : World) (h : NRow w' NA l) => hdReady_any l NA c x h0 hx (by omega) w' h)
  have hcpz : (Ah.length : Int) < ((Ah.length + 1 : Nat) : Int) := by omega
  have hlz : ((Ah.length + 1 : Nat) : Int) - 1 = (Ah.length : Int) := by omega
  have hA0 : (Ah.length : Int) ≤ 1000 := by omega
  have HCAP : Hid (Ah.length + 1 ≤ cp) := by unfold Hid; rw [List.length_reverse, List.length_cons] at hcap; exact hcap
  obtain ⟨kk, nn, lo, hi⟩ := x
  unfold At4 at hxa
  simp only at hxa
  obtain ⟨x0, x1, x2, x3⟩ := hxa
  unfold itV at HRD
  simp only at HRD
  clear hs hblk hcap hmax hsz htake
  go_enter Try.func44, Try.ntmps44
  go_upto_region 3 with (fail)
  have hb := (Below.refl w.heap.size w).alloc (Nat.le_refl _) (.cells (itV ⟨kk, nn, lo, hi⟩) 44)
  have HU : Hid (HuS l NA c wb m w0 ⟨kk, nn, lo, hi⟩ Ah f HE (.slice (some ⟨g, 0, none⟩) (Ah.length + 1) cp) w w.heap.size (w.alloc (.cells (itV ⟨kk, nn, lo, hi⟩) 44))) := ⟨HS.out.later hb, .of HS.out.size hb, Blk.new _ _ _⟩
  clear hb x0 x1 x2 x3 c0 c1 c2
  unfold itV at HU
  simp only at HU
  generalize w.alloc (.cells #[.int .i64 kk, .int .i64 nn, .int .i64 lo, .int .i64 hi] 44) = w1 at HU ⊢
  by_cases hk0 : k = 0
  · subst hk0
    refine wp_region_stable (S := (HuS l NA c wb m w0 ⟨kk, nn, lo, hi⟩ Ah f HE (.slice (some ⟨g, 0, none⟩) (Ah.length + 1) cp) w w.heap.size)) (hSt := fun _ _ h hb => h.later hb) (plan := [[(1, none)], [(24, some 0)], [(25, some 1)], [(0, none)], [(27, some 3)], [(28, some 4)], [(29, some 5)], [(6, none)], [(30, some 6), (31, some 7)], [(26, some 2), (32, some 8)]]) (by kernel_rfl) (by kernel_rfl) (by kernel_rfl) ?hS ?_
    rotate_left
    iterate 10 first
      | (refine chain_skip (by rfl) (by rfl) ?_)
      | (apply chain_want (by rfl)
         · intro act wx hS hr
           simp at hr
           have SS := Lib.hid hS
           have c0 := SS.out.s.blk.cell 0
           have c1 := SS.out.s.blk.cell 1
           have c2 := SS.out.s.blk.cell 2
           have hit := SS.out.xb
           unfold itV at hit
           simp only at hit
           have x0 := hit.cell 0
           have x1 := hit.cell 1
           have x2 := hit.cell 2
           have x3 := hit.cell 3
           simp [wkC] at x0 x1 x2 x3 c0 c1 c2
           clear hit
           go_simp
           (try go_ints)
           first
             | exact Done.same
        )
    show ∀ w', _ → _
    intro wz hz
    simp [Act.put]
    case hS => exact HU.out
    have HZ := Lib.hid hz
    clear hz HU HRD
    have SS := HZ
    have c0 := SS.out.s.blk.cell 0
    have c1 := SS.out.s.blk.cell 1
    have c2 := SS.out.s.blk.cell 2
    have hit := SS.out.xb
    unfold itV at hit
    simp only at hit
    have x0 := hit.cell 0
    have x1 := hit.cell 1
    have x2 := hit.cell 2
    have x3 := hit.cell 3
    simp [wkC] at x0 x1 x2 x3 c0 c1 c2
    clear hit
    have f1 := HZ.out.s.blk.frozen 1
    have HFIN : Hid (HpP l NA c wb m w0 (rchS l [⟨kk, nn, lo, hi⟩]) Ah f (csI l ⟨kk, nn, lo, hi⟩) HE 0 w (.returned (.int .i64 0)) (wz.setCell ⟨wb, 1, none⟩ (.slice (some ⟨g, 0, none⟩) Ah.length cp))) := by
      refine ⟨HE, _, f, by rw [Nat.zero_mul]; rfl, HZ.out.s.pop, HZ.out.k'.trans (HdK.set HZ.out.s.hwb 1 _), hO, fun t => ?_, by simp, Nat.le_refl _⟩
      rw [Nat.zero_mul, Nat.add_zero]
      have := mny_le hO t
      omega
    have hcc : (Ah.length : Int) ≤ (cp : Int) := by have := HCAP.out; omega
    have hcn : Ah.length ≤ cp := by have := HCAP.out; omega
    clear hk hk2 hA hO HZ SS
    go_wp2
    go_ret
    exact HFIN.out
  · obtain ⟨hk1, hk3, hk4⟩ := hk hk0
    have hkp : (0 : Int) < (k : Int) := by omega
    have hkd : decide ((0 : Int) < (k : Int)) = true := decide_eq_true hkp
    have hkn : 0 < k := by omega
    have hkdn : decide (0 < k) = true := decide_eq_true hkn
    have hkz : (k : Int) ≤ 2 := by omega
    have HIT := Lib.hid (hd_itok hR.1 hlen htx (s := ⟨kk, nn, lo, hi⟩ :: Ah) (fun y hy => by
      rcases List.mem_cons.1 hy with rfl | h
      · exact hx
      · exact hA y h))
    cases hrd : rdyS l [⟨kk, nn, lo, hi⟩] with
    | true =>
      rw [hrd] at HRD
      refine wp_region_stable (S := (HuS l NA c wb m w0 ⟨kk, nn, lo, hi⟩ Ah f HE (.slice (some ⟨g, 0, none⟩) (Ah.length + 1) cp) w w.heap.size)) (hSt := fun _ _ h hb => h.later hb) (plan := [[(1, none)], [(24, some 0)], [(25, some 1)], [(0, none)], [(27, some 3)], [(28, some 4)], [(29, some 5)], [(6, none)], [(30, some 6), (31, some 7)], [(26, some 2), (32, some 8)]]) (by kernel_rfl) (by kernel_rfl) (by kernel_rfl) ?hS ?_
      rotate_left
      iterate 10 first
        | (refine chain_skip (by rfl) (by rfl) ?_)
        | (apply chain_want (by rfl)
           · intro act wx hS hr
             simp at hr
             have SS := Lib.hid hS
             have c0 := SS.out.s.blk.cell 0
             have c1 := SS.out.s.blk.cell 1
             have c2 := SS.out.s.blk.cell 2
             have hit := SS.out.xb
             unfold itV at hit
             simp only at hit
             have x0 := hit.cell 0
             have x1 := hit.cell 1
             have x2 := hit.cell 2
             have x3 := hit.cell 3
             simp [wkC] at x0 x1 x2 x3 c0 c1 c2
             clear hit
             go_simp
             (try go_ints)
             first
               | ((with_reducible refine (HRD.out _ hS.s.nrow).mono ?_); rintro e w' ⟨rfl, hb⟩; exact Done.mk hb)
               | exact Done.same
          )
      show ∀ w', _ → _
      intro wz hz
      simp [Act.put]
      case hS => exact HU.out
      have HZ := Lib.hid hz
      have HAD := Lib.hid (hdWadd_any l NA c wb m w0 (⟨kk, nn, lo, hi⟩ :: Ah) f HE (.slice (some ⟨g, 0, none⟩) (Ah.length + 1) cp) k ⟨by omega, hk2⟩ wz HZ.out.s (by rw [List.length_cons]; omega) HIT.out hO)
      clear hz HU HRD
      go_wp2_with fail
      refine HAD.out.mono ?_
      rintro e w5 ⟨rfl, HE5, g1, g2, g3, g4⟩
      have HFIN : Hid (HpP l NA c wb m w0 (rchS l [⟨kk, nn, lo, hi⟩]) Ah f (csI l ⟨kk, nn, lo, hi⟩) HE k w (.returned (.int .i64 0)) (w5.setCell ⟨wb, 1, none⟩ (.slice (some ⟨g, 0, none⟩) Ah.length cp))) := by
        have hq := hit_ready hrd
        refine ⟨HE5, _, f, by rw [(hq [] []).2, Nat.mul_zero]; rfl, g1.pop, (HZ.out.k'.trans g2).trans (HdK.set g1.hwb 1 _), g3, fun t => ?_, by omega, Nat.le_refl _⟩
        rw [g4 t, (hq Ah t).1]
        by_cases ht : t = ⟨kk, nn, lo, hi⟩ :: Ah
        · rw [if_pos ht, if_pos ht.symm, Nat.mul_one, ht]
        · rw [if_neg ht, if_neg (fun e => ht e.symm), Nat.mul_zero, Nat.add_zero]
          have := mny_le hO t
          omega
      have c1 := g1.blk.cell 1
      have f1 := g1.blk.frozen 1
      simp [wkC] at c1
      have hcc : (Ah.length : Int) ≤ (cp : Int) := by have := HCAP.out; omega
      have hcn : Ah.length ≤ cp := by have := HCAP.out; omega
      clear hk1 hk2 hk3 hk4 hk hA hO HZ g1 g2 g3 g4 HAD HIT hkp hkd hkn hkdn hkz hk0
      go_wp2
      go_ret
      exact HFIN.out
    | false =>
      rw [hrd] at HRD
      refine wp_region_stable (S := (HuS l NA c wb m w0 ⟨kk, nn, lo, hi⟩ Ah f HE (.slice (some ⟨g, 0, none⟩) (Ah.length + 1) cp) w w.heap.size)) (hSt := fun _ _ h hb => h.later hb) (plan := [[(1, none)], [(24, some 0)], [(25, some 1)], [(0, none)], [(27, some 3)], [(28, some 4)], [(29, some 5)], [(6, none)], [(30, some 6), (31, some 7)], [(26, some 2), (32, some 8)]]) (by kernel_rfl) (by kernel_rfl) (by kernel_rfl) ?hS ?_
      rotate_left
      iterate 10 first
        | (refine chain_skip (by rfl) (by rfl) ?_)
        | (apply chain_want (by rfl)
           · intro act wx hS hr
             simp at hr
             have SS := Lib.hid hS
             have c0 := SS.out.s.blk.cell 0
             have c1 := SS.out.s.blk.cell 1
             have c2 := SS.out.s.blk.cell 2
             have hit := SS.out.xb
             unfold itV at hit
             simp only at hit
             have x0 := hit.cell 0
             have x1 := hit.cell 1
             have x2 := hit.cell 2
             have x3 := hit.cell 3
             simp [wkC] at x0 x1 x2 x3 c0 c1 c2
             clear hit
             go_simp
             (try go_ints)
             first
               | ((with_reducible refine (HRD.out _ hS.s.nrow).mono ?_); rintro e w' ⟨rfl, hb⟩; exact Done.mk hb)
               | exact Done.same
          )
      show ∀ w', _ → _
      intro wz hz
      simp [Act.put]
      case hS => exact HU.out
      have HZ := Lib.hid hz
      clear hz HU HRD
      have hsum := opn_sum hR hx hrd
      have hf0 : 1 ≤ f := by omega
      have HX := Lib.hid hx
      obtain ⟨f9, rfl⟩ : ∃ f9, f = f9 + 1 := ⟨f - 1, by omega⟩
      have HS6 : Hid (HwS l NA c wb m w0 Ah f9 HE (.slice (some ⟨g, 0, none⟩) Ah.length cp) ((wz.setCell ⟨wb, 1, none⟩ (.slice (some ⟨g, 0, none⟩) Ah.length cp)).setCell ⟨wb, 2, none⟩ (.int .i64 (f9 : Int)))) := HZ.out.s.pop.fuel f9
      have HK6 : Hid (HdK w0 wb w ((wz.setCell ⟨wb, 1, none⟩ (.slice (some ⟨g, 0, none⟩) Ah.length cp)).setCell ⟨wb, 2, none⟩ (.int .i64 (f9 : Int)))) := (HZ.out.k'.trans (HdK.set HZ.out.s.hwb 1 _)).trans (HdK.set HZ.out.s.hwb 2 _)
      have HX6 : Hid (Blk ((wz.setCell ⟨wb, 1, none⟩ (.slice (some ⟨g, 0, none⟩) Ah.length cp)).setCell ⟨wb, 2, none⟩ (.int .i64 (f9 : Int))) w.heap.size (itV ⟨kk, nn, lo, hi⟩) 44) := (HZ.out.xb.setCell_ne (a := ⟨wb, 1, none⟩) (blk_typ HZ.out.s.blk HZ.out.xb (by decide)) _).setCell_ne (a := ⟨wb, 2, none⟩) (blk_typ HZ.out.s.blk HZ.out.xb (by decide)) _
      have SS := HZ
      have c0 := SS.out.s.blk.cell 0
      have c1 := SS.out.s.blk.cell 1
      have c2 := SS.out.s.blk.cell 2
      have hit := SS.out.xb
      unfold itV at hit
      simp only at hit
      have x0 := hit.cell 0
      have x1 := hit.cell 1
      have x2 := hit.cell 2
      have x3 := hit.cell 3
      simp [wkC] at x0 x1 x2 x3 c0 c1 c2
      clear hit
      have f1 := HZ.out.s.blk.frozen 1
      have f2 := HZ.out.s.blk.frozen 2
      have hcc : (Ah.length : Int) ≤ (cp : Int) := by have := HCAP.out; omega
      have hcn : Ah.length ≤ cp := by have := HCAP.out; omega
      have hk00 : ((k : Int) == 0) = false := by simp; omega
      have hf00 : (((f9 + 1 : Nat) : Int) == 0) = false := by simp; omega
      have hf01 : ((f9 + 1 : Nat) : Int) - 1 = (f9 : Int) := by omega
      clear HZ SS
      go_upto_region 11 with (fail)
      have d0 : ((wz.setCell ⟨wb, 1, none⟩ (.slice (some ⟨g, 0, none⟩) Ah.length cp)).setCell ⟨wb, 2, none⟩ (.int .i64 (f9 : Int))).heap.size = wz.heap.size := by simp [World.setCell]
      have HUS : Hid (HS6.out = HS6.out) := rfl
      clear HUS d0 x0 x1 x2 x3 c0 c1 c2 f1 f2 hcc hcn hf00 hf01 hk
      generalize (wz.setCell ⟨wb, 1, none⟩ (.slice (some ⟨g, 0, none⟩) Ah.length cp)).setCell ⟨wb, 2, none⟩ (.int .i64 (f9 : Int)) = w6 at HS6 HK6 HX6 ⊢
      have HOP := Lib.hid (fun (w' : World) (h : NRow w' NA l) => hdOpens_any l NA c ⟨kk, nn, lo, hi⟩ hR.1 h0 HX.out hrd (by omega) w' h)
      have HRC := Lib.hid (rch_one hR HX.out hrd)
      have HOK := Lib.hid (rw_len l ⟨kk, nn, lo, hi⟩)
      have HTF := Lib.hid (fun t ht => rw_form hR.1 HX.out (t := t) ht)
      generalize rwI l ⟨kk, nn, lo, hi⟩ = T at *
      generalize rchS l [⟨kk, nn, lo, hi⟩] = RX at *
      generalize csI l ⟨kk, nn, lo, hi⟩ = cs at *
      unfold itV at HOP
      simp only at HOP
      have HQ6 : Hid (HuQ l NA c wb m w0 ⟨kk, nn, lo, hi⟩ Ah f9 HE (.slice (some ⟨g, 0, none⟩) Ah.length cp) w w.heap.size w6) := ⟨HS6.out, HK6.out, HX6.out⟩
      clear HX HIT hx
      refine wp_region_stable_last (S := (HuQ l NA c wb m w0 ⟨kk, nn, lo, hi⟩ Ah f9 HE (.slice (some ⟨g, 0, none⟩) Ah.length cp) w w.heap.size)) (hSt := fun _ _ h hb => h.later hb) (plan := [[(0, none)], [(62, some 0)], [(63, some 1)], [(64, some 2)], [(6, none)], [(65, some 3), (66, some 4)], []]) rfl (by kernel_rfl) (by kernel_rfl) (by kernel_rfl) (by kernel_rfl) ?hS ?_
      rotate_left
      simp only [List.dropLast]
      iterate 6 first
        | (refine chain_skip (by rfl) (by rfl) ?_)
        | (apply chain_want (by rfl)
           · intro act wx hS hr
             simp at hr
             have SS := Lib.hid hS
             have c0 := SS.out.s.blk.cell 0
             have c1 := SS.out.s.blk.cell 1
             have c2 := SS.out.s.blk.cell 2
             have hit := SS.out.xb
             unfold itV at hit
             simp only at hit
             have x0 := hit.cell 0
             have x1 := hit.cell 1
             have x2 := hit.cell 2
             have x3 := hit.cell 3
             simp [wkC] at x0 x1 x2 x3 c0 c1 c2
             clear hit
             go_simp
             (try go_ints)
             first
               | ((with_reducible refine (HOP.out _ hS.s.nrow).mono ?_); rintro e w' ⟨rfl, hb⟩; exact Done.mk hb)
               | exact Done.same
          )
      (refine chain_rel (NewR w.heap.size) (NewR.later w.heap.size) (by rfl) ?_ ?_
       · intro act wx hS hr
         simp at hr
         have SS := Lib.hid hS
         have c0 := SS.out.s.blk.cell 0
         have c1 := SS.out.s.blk.cell 1
         have c2 := SS.out.s.blk.cell 2
         have hit := SS.out.xb
         unfold itV at hit
         simp only at hit
         have x0 := hit.cell 0
         have x1 := hit.cell 1
         have x2 := hit.cell 2
         have x3 := hit.cell 3
         simp [wkC] at x0 x1 x2 x3 c0 c1 c2
         clear hit
         all_goals go_simp
         exact Done.rel ((Below.refl _ _).alloc (Nat.le_refl _) _) ⟨_, rfl, Nat.le_of_lt hS.xb.lt, Blk.new _ _ _⟩
      )
      show ∀ w', _ → _
      intro wz hz
      simp [Act.put]
      case hS => exact HQ6.out
      intro v6 hv6
      obtain ⟨lb, rfl, hlw, hlb⟩ := hv6
      refine wp_store_row 113 _ _ rfl lb (rwsC T) rfl rfl 113 (rwsC []) hlb (rwsC_info HOK.out) (by rw [rwsC_size HOK.out]; rfl) rwsC_ones ?_
      have hgr := setRow_grown wz lb (rwsC T)
      have h0w : w0.heap.size ≤ w.heap.size := HS.out.size
      have hww : w.heap.size ≤ wz.heap.size := Nat.le_of_lt hz.xb.lt
      have hwl : lb ≠ wb := blk_typ hlb hz.s.blk (by decide)
      have HBL : Hid (Blk (wz.setRow lb (rwsC T)) lb (rwsC T) 113) := setRow_blk hlb
      have HR0 : Hid (HuR l NA c wb m w0 T Ah f9 HE k w lb 0 0 f9 HE (.slice (some ⟨g, 0, none⟩) Ah.length cp) (wz.setRow lb (rwsC T))) := ⟨hz.s.gbT hlb (by decide) (by decide) hgr (by omega), hz.k'.late hlw h0w hgr hww, hO, HBL.out, Nat.le_refl _, fun t => rfl, by rw [Nat.zero_add]; rfl, Nat.le_refl _, Nat.le_refl _⟩
      have HWL := Lib.hid hwl
      have HK0 := Lib.hid hk0
      have HSU := Lib.hid hsum
      have HK1 := Lib.hid hk1
      have HK3 := Lib.hid hk3
      have HK4 := Lib.hid hk4
      have HK2 := Lib.hid hk2
      have HFF := Lib.hid hf
      have HOO := Lib.hid hO
      have HAA := Lib.hid hA
      clear hz hlb hlw hgr h0w hww hwl hk0 hsum hk1 hk3 hk4 hk2 hf hO hA HQ6 HS6 HK6 HX6 HOP hf0 hk00 HS
      generalize wz.setRow lb (rwsC T) = w7 at *
      have e18 := HBL.out.cell 18
      rw [rwsC_many HOK.out] at e18
      have hTz : (T.length : Int) ≤ 2 := by have := HOK.out.1; omega
      have hTn : T.length ≤ 2 := HOK.out.1
      go_wp2
      go_loopw [7, 10, 73] (fun p (b : Value) i wr => HuL l NA c wb m w0 T Ah f9 HE k w lb p i wr) (fun _ _ i _ => T.length - (intOf i).toNat)
      case atStart => exact ⟨0, 0, f9, HE, _, Nat.zero_le _, rfl, rfl, HR0.out⟩
      case round =>
        obtain ⟨j, p, f', HE', v', hj, rfl, rfl, hh⟩ := hrel
        have HH := Lib.hid hh
        have HJ := Lib.hid hj
        clear hh
        by_cases hlt : j < T.length
        · have hz : (j : Int) < (T.length : Int) := by omega
          have hjn : ¬ (j : Int) < 0 := by omega
          have HLT := Lib.hid hlt
          have hr2 : (T.getD j []).length ≤ 2 := HOK.out.2 _ (by rw [List.getD_eq_getElem?_getD, List.getElem?_eq_getElem hlt]; exact List.getElem_mem hlt)
          have HR2 := Lib.hid hr2
          have hrf : ∀ y ∈ T.getD j [], HdF l y := HTF.out _ (by rw [List.getD_eq_getElem?_getD, List.getElem?_eq_getElem hlt]; exact List.getElem_mem hlt)
          have HRF := Lib.hid hrf
          have HRG := Lib.hid (row_range HH.out.bl HOK.out (show j < 2 by omega))
          have hb8 : Below wr.heap.size wr ((wr.alloc (.cells (rowC []).toArray 110)).setRow wr.heap.size (rowC (T.getD j [])).toArray) := (((Below.refl wr.heap.size wr).alloc (Nat.le_refl _) (.cells (rowC []).toArray 110)).grown (setRow_grown _ _ _) (by rw [World.size_alloc]; omega) (fun k hk => by cases hk; exact Nat.le_refl _))
          have HH8 := Lib.hid (HH.out.later hb8)
          have HBN := Lib.hid (Blk.new wr (rowC []).toArray 110)
          have HB8 : Hid (Blk ((wr.alloc (.cells (rowC []).toArray 110)).setRow wr.heap.size (rowC (T.getD j [])).toArray) wr.heap.size (rowC (T.getD j [])).toArray 110) := setRow_blk HBN.out
          have hTH := Lib.hid (hP (n - 1) (by have := HSU.out; have := HK3.out; omega) (T.getD j []) Ah f' HE' v' k ((wr.alloc (.cells (rowC []).toArray 110)).setRow wr.heap.size (rowC (T.getD j [])).toArray) hr2 hrf HAA.out HH8.out.s HH8.out.ok (by have := HK0.out; omega) HK2.out (by have := HH.out.fl; have := HFF.out; omega) (by
            have h1 := HH.out.fu
            have h2 := HSU.out
            have h3 := HK1.out
            have h4 := dpR_drop l j T
            rw [rows_drop hlt, dpR_cons] at h1 h4
            omega) (by
            have h2 := HSU.out
            have h3 := HK3.out
            have h4 := dpR_drop l j T
            rw [rows_drop hlt, dpR_cons] at h4
            omega) (by
            have h2 := HSU.out
            have h3 := HK4.out
            have h4 := dpR_drop l j T
            rw [rows_drop hlt, dpR_cons] at h4
            omega))
          clear hb8 hr2 hrf hlt hj
          go_upto_region 14 with (fail)
          go_wp2_with (first | (refine wpList_load_mid rfl 110 _ rfl lb (j * 9) rfl (rowC (T.getD j [])) _ HRG.out Try.underlying110 rfl (rowC_info HR2.out) ?_) | (refine wpList_store_row rfl 110 _ _ rfl wr.heap.size (rowC (T.getD j [])).toArray rfl rfl 110 (rowC []).toArray HBN.out (rowC_infoA HR2.out) (by rw [List.size_toArray, List.size_toArray, rowC_len HR2.out]; rfl) rowC_ones ?_) | (refine wpList_load_row rfl 110 _ rfl wr.heap.size rfl 110 (rowC (T.getD j [])).toArray (0, 0) _ HB8.out Try.underlying110 rfl (rowC_infoA HR2.out) ?_) | fail)
          refine hTH.out.mono ?_
          intro e w9 hpp
          obtain ⟨HE2, v2, f2, rfl, hnx⟩ := HH8.out.step HLT.out HK0.out HWL.out hpp
          have HNX := Lib.hid hnx
          have hp2 := hnx.p2
          have hj2 : j < 2 := by have := HLT.out; omega
          have hpz : (p : Int) ≤ 4 := by have := HH.out.p2; omega
          obtain ⟨q, hq⟩ : ∃ q, min 2 (k * nilF (rchS l (T.getD j []))) = q := ⟨_, rfl⟩
          have hqz : (q : Int) ≤ 2 := by omega
          rw [hq] at HNX ⊢
          clear hnx hpp hp2 hTH HBN HB8 HRG HRF HR2 hq
          go_wp2
          go_roundw
          case rel => exact ⟨j + 1, p + q, f2, HE2, v2, HLT.out, by go_num, by go_num, HNX.out⟩
          case measure => have := HLT.out; simp [intOf] <;> omega
        · obtain rfl : j = T.length := by omega
          have hz : ¬ ((T.length : Nat) : Int) < (T.length : Int) := by omega
          have hpz : (p : Int) ≤ 4 := by have := HH.out.p2; omega
          have HFIN : Hid (HpP l NA c wb m w0 RX Ah (f9 + 1) cs HE k w (.returned (.int .i64 (min (p : Int) 2))) wr) := by
            have h1 := HH.out.nil
            have h2 := HH.out.fu
            have h3 := HSU.out
            have h4 := HK0.out
            rw [List.drop_length] at h1 h2
            have e0 : nilF (([] : List (List Itm)).flatMap (rchS l)) = 0 := rfl
            have e1 : dpR l [] = 0 := rfl
            rw [e0, Nat.mul_zero, Nat.add_zero, ← HRC.out] at h1
            rw [e1] at h2
            refine ⟨HE', v', f', by rw [← h1]; congr 2; omega, HH.out.s, HH.out.k', HH.out.ok, fun t => ?_, by rw [if_neg h4]; omega, by have := HH.out.fl; omega⟩
            have h5 := HH.out.hit t
            rw [List.drop_length] at h5
            have e2 : hitF (([] : List (List Itm)).flatMap (rchS l)) Ah t = 0 := rfl
            rw [e2, Nat.mul_zero, Nat.add_zero, ← HRC.out] at h5
            have := mny_le HH.out.ok t
            omega
          clear hlt hj
          go_wp2
          go_ret
          exact HFIN.out
/-- pass. -/
theorem hd_pass_all {l : List Nd} {NA : Option Addr} {c wb m : Nat} {w0 : World} (hR : Rgt l) (hlen : l.length ≤ 1000000) (htx : Txt l) (n : Nat) : PassC l NA c wb m w0 n := by
  induction n using Nat.strongRecOn with
  | ind n ih => exact hd_pass hR hlen htx fun i hi => hd_thru hR (ih i hi)
end Go.Proofs.Ytidoofdofdhjpaa
