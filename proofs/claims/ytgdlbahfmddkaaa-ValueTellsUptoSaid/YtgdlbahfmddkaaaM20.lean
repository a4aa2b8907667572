/- Values opened as arguments. -/
import Derived.Test.YtgdlbahfmddkaaaM11
import Derived.Test.YtgdlbahfmddkaaaM19
import Derived.Test.YtgdlbahfmddkaaaM07
import Derived.Test.YtgdlbahfmddkaaaM12
import Derived.Test.YtgdlbahfmddkaaaRows
import Derived.BigQuiet
namespace Go.Proofs.Ytgdlbahfmddkaaa
open Go Go.RowKit Go.ChangeShapes Go.WideShapes Go.ChangeAt Go.Joins
set_option maxRecDepth 100000
set_option linter.unusedVariables false
set_option linter.unusedSimpArgs false

theorem cellsVal : Try.prog.cellsOf 27 = 5 := by kernel_rfl
theorem cellsVals : Try.prog.cellsOf 25 = 1 := by kernel_rfl
theorem cellsU8v : Try.prog.cellsOf 5 = 1 := by kernel_rfl
theorem bulk_part {H : Type} {d : DataW H} : ∀ {l : List (DataW H)}, d ∈ l → Rows.uptoBulk d ≤ Rows.uptoBulkAll l
  | x :: r, h => by
    rw [Rows.uptoBulkAll]
    rcases List.mem_cons.1 h with rfl | h
    · exact Nat.le_add_right _ _
    · exact Nat.le_trans (bulk_part h) (Nat.le_add_left _ _)
theorem bulk_sum {H : Type} {D : Nat → DataW H} {f : Nat → Vl} : ∀ (l : List Nat), (∀ i ∈ l, cntV (f i) ≤ Rows.uptoBulk (D i)) → ((l.map f).map cntV).sum ≤ Rows.uptoBulkAll (l.map D)
  | [], _ => by simp [Rows.uptoBulkAll]
  | i :: l, h => by
    have h1 := h i (by simp)
    have h2 := bulk_sum l (fun j hj => h j (List.mem_cons_of_mem _ hj))
    simp only [List.map_cons, List.sum_cons, Rows.uptoBulkAll]
    omega
section
variable {H : Type} {enc : TypeId × Value → H} {W : World} {base : Nat} {v : Value} {d : DataW H} {p : List MemPlace}
/-- What a value's cells are. -/
structure ValW (W : World) (cs : List Value) (v : Vl) (B : Option Addr) (c s : Nat) : Prop where
  cap : v.kids.len ≤ c
  nilc : B = none → c = 0
  cells : ∀ j, j < 5 → cs[j]? = (vlC v B c)[j]?
  row : VRow W B 0 v.kids
  cnt : cntV v ≤ s
  txt : v.text.length ≤ s
theorem val_words : ∀ (s n : Nat) (cs : List Value) (x : DataW H × List MemPlace), Rows.uptoBulk x.1 = s → cs.length = 5 → DataW.trod enc Try.prog W 0 (fun _ => true) true n 27 cs = some x → ∃ (v : Vl) (B : Option Addr) (c : Nat), ValW W cs v B c s := fun s => by
  induction s using Nat.strongRecOn with
  | ind s ih =>
    intro n cs x hs hlen h
    obtain ⟨xs, m, _, rfl, _, hn, hel⟩ := DataW.trod_struct Try.underlying27 h
    match cs, hlen with
    | [c0, c1, c2, c3, c4], _ =>
      match xs, hn with
      | [y0, y1, y2, y3, y4], _ =>
        have e0 : DataW.trod enc Try.prog W 0 (fun _ => true) true m 3 [c0] = some y0 := by have h := hel 0 _ rfl; simp [cellsI] at h; exact h
        have e1 : DataW.trod enc Try.prog W 0 (fun _ => true) true m 5 [c1] = some y1 := by have h := hel 1 _ rfl; simp [cellsU8v] at h; exact h
        have e2 : DataW.trod enc Try.prog W 0 (fun _ => true) true m 9 [c2] = some y2 := by have h := hel 2 _ rfl; simp [cellsS] at h; exact h
        have e3 : DataW.trod enc Try.prog W 0 (fun _ => true) true m 3 [c3] = some y3 := by have h := hel 3 _ rfl; simp [cellsI] at h; exact h
        have e4 : DataW.trod enc Try.prog W 0 (fun _ => true) true m 25 [c4] = some y4 := by have h := hel 4 _ rfl; simp [cellsVals] at h; exact h
        obtain ⟨a0, h0, _, _⟩ := DataW.trod_int Try.underlying3 e0
        obtain ⟨a1, h1, _, wf1⟩ := DataW.trod_int Try.underlying5 e1
        obtain ⟨t, h2, hy2, _⟩ := DataW.trod_string Try.underlying9 e2
        obtain ⟨a3, h3, _, _⟩ := DataW.trod_int Try.underlying3 e3
        simp at h0 h1 h2 h3
        subst h0 h1 h2 h3
        obtain ⟨b, rfl, hb⟩ := u8_nat wf1
        have hbulk : Rows.uptoBulk y2.1 + Rows.uptoBulk y4.1 + 1 ≤ s := by
          rw [← hs]; simp only [List.map_cons, List.map_nil, Rows.uptoBulk, Rows.uptoBulkAll]; omega
        have htb : t.data.toList.length ≤ s := by
          have : Rows.uptoBulk y2.1 = t.data.toList.length + 1 := by rw [hy2]; simp [Rows.uptoBulk]
          omega
        have hby : (((UInt8.ofNat b).toNat : Nat) : Int) = (b : Int) := by simp; omega
        rcases Go.Deep.open_slice Try.underlying25 e4 with ⟨hcs, _⟩ | ⟨xa, ln, cp, mm, n', D, Pl, hcs, hbb, hl, hm, hmm, hx, hi⟩
        · simp at hcs
          subst hcs
          refine ⟨⟨a0, UInt8.ofNat b, t.data.toList, a3, .nil⟩, none, 0, Nat.le_refl _, fun _ => rfl, fun j hj => ?_, trivial, by show 1 + 0 ≤ s; omega, htb⟩
          unfold vlC
          rcases (by omega : j = 0 ∨ j = 1 ∨ j = 2 ∨ j = 3 ∨ j = 4) with rfl | rfl | rfl | rfl | rfl
          · rfl
          · simp only; rw [hby]; rfl
          · simp; exact (bs_self t).symm
          · rfl
          · rfl
        · simp at hcs
          subst hcs
          simp only [if_true] at hmm
          subst hmm
          have hD : Rows.uptoBulkAll ((List.range ln).map D) + 1 ≤ Rows.uptoBulk y4.1 := by rw [hx]; simp only [Rows.uptoBulk]; omega
          have key : ∀ i, i < ln → ∃ (v : Vl) (B : Option Addr) (c : Nat), v.kids.len ≤ c ∧ (∀ j, j < 5 → W.cell? (xa.add (i * 5 + j)) = (vlC v B c)[j]?) ∧ VRow W B 0 v.kids ∧ cntV v ≤ Rows.uptoBulk (D i) := by
            intro i hil
            obtain ⟨cs', hc, ht⟩ := hi i (by omega)
            rw [cellsVal] at hc
            obtain ⟨_, hcl, hat⟩ := World.cells?_some hc
            have hpart := bulk_part (List.mem_map.2 ⟨i, List.mem_range.2 hil, rfl⟩ : D i ∈ (List.range ln).map D)
            obtain ⟨v, B, c, hv⟩ := ih (Rows.uptoBulk (D i)) (by omega) n' cs' (D i, Pl i) rfl hcl ht
            exact ⟨v, B, c, hv.cap, fun j hj => by rw [← Go.Deep.add_add, hat j hj, hv.cells j hj], hv.row, hv.cnt⟩
          let f : Nat → Vl := fun i => if h : i < ln then Classical.choose (key i h) else vl0
          have hfs : ∀ i (hil : i < ln), ∃ (B : Option Addr) (c : Nat), (f i).kids.len ≤ c ∧ (∀ j, j < 5 → W.cell? (xa.add (i * 5 + j)) = (vlC (f i) B c)[j]?) ∧ VRow W B 0 (f i).kids ∧ cntV (f i) ≤ Rows.uptoBulk (D i) := fun i hil => by
            have hfi : f i = Classical.choose (key i hil) := by simp [f, hil]
            rw [hfi]; exact Classical.choose_spec (key i hil)
          have hlist : (Vs.of ((List.range ln).map f)).list = (List.range ln).map f := Vs.list_of _
          have hlen2 : (Vs.of ((List.range ln).map f)).len = ln := by unfold Vs.len; rw [hlist]; simp
          have hsum := bulk_sum (D := D) (f := f) (List.range ln) (fun i hi2 => by
            obtain ⟨_, _, _, _, _, h9⟩ := hfs i (List.mem_range.1 hi2); exact h9)
          refine ⟨⟨a0, UInt8.ofNat b, t.data.toList, a3, Vs.of ((List.range ln).map f)⟩, some xa, mm, by simp only [hlen2]; exact hl, (fun e => by cases e), fun j hj => ?_, ?_, ?_, htb⟩
          · unfold vlC
            simp only [hlen2]
            rcases (by omega : j = 0 ∨ j = 1 ∨ j = 2 ∨ j = 3 ∨ j = 4) with rfl | rfl | rfl | rfl | rfl
            · rfl
            · rw [hby]; rfl
            · simp; exact (bs_self t).symm
            · rfl
            · rfl
          · by_cases hz : ln = 0
            · subst hz; exact trivial
            · obtain ⟨g, off, spot⟩ := xa
              obtain ⟨B0, c00, _, hc00, _⟩ := hfs 0 (by omega)
              have hc00 := hc00 0 (by omega)
              have hspot : spot = none := by
                have hc : (vlC (f 0) B0 c00)[0]? = some (.int .i64 (f 0).kind) := rfl
                rw [hc] at hc00
                simpa [Addr.add] using World.cell?_spot hc00
              subst hspot
              have hadd : ∀ k, (⟨g, off, none⟩ : Addr).add k = ⟨g, off + k, none⟩ := fun k => by cases k <;> simp [Addr.add]
              have hg : g < W.heap.size := by
                have hc : (vlC (f 0) B0 c00)[0]? = some (.int .i64 (f 0).kind) := rfl
                rw [hc] at hc00
                have := World.block_lt_of_cell? W _ hc00
                rw [hadd] at this; exact this
              refine VRow.of hg (fun j hj => ?_)
              rw [hlen2] at hj
              obtain ⟨Bj, cj, k1, k2, k3, _⟩ := hfs j hj
              have hatj : (Vs.of ((List.range ln).map f)).at j = f j := by unfold Vs.at; rw [hlist]; simp [hj]
              rw [hatj]
              refine ⟨Bj, cj, k1, fun q hq => ?_, k3⟩
              have := k2 q hq
              rw [hadd] at this
              rw [Nat.zero_add, ← this]; congr 2; omega
          · show 1 + cntVs (Vs.of ((List.range ln).map f)) ≤ s
            rw [cntVs_list, hlist]; omega
/-- With where its kids stand told: none at all, or a row. -/
theorem open_valB (hv : Value.okWide Try.prog W .any base 27 v) (h : DataW.Trod enc Try.prog W 0 (fun _ => true) true 27 v d p) : ∃ (x : Vl) (B : Option Addr) (c : Nat), v = .agg (vlC x B c) ∧ x.kids.len ≤ c ∧ (B = none → c = 0) ∧ VRow W B 0 x.kids ∧ cntV x ≤ Rows.uptoBulk d ∧ x.text.length ≤ Rows.uptoBulk d := by
  obtain ⟨cs, rfl, hsz⟩ := okWide_struct Try.underlying27 hv
  rw [cellsVal] at hsz
  obtain ⟨fuel, hf⟩ := h
  obtain ⟨x, B, c, hx⟩ := val_words (Rows.uptoBulk d) fuel cs.toList (d, p) rfl (by rw [Array.length_toList]; exact hsz) (by simpa [Value.cells] using hf)
  refine ⟨x, B, c, ?_, hx.cap, hx.nilc, hx.row, hx.cnt, hx.txt⟩
  congr 1
  refine Array.ext_getElem? (fun j => ?_)
  rcases Nat.lt_or_ge j 5 with hj | hj
  · rw [← hx.cells j hj, Array.getElem?_toList]
  · rw [Array.getElem?_eq_none (by omega), Array.getElem?_eq_none (by show 5 ≤ j; omega)]
theorem open_val (hv : Value.okWide Try.prog W .any base 27 v) (h : DataW.Trod enc Try.prog W 0 (fun _ => true) true 27 v d p) : ∃ x : Vl, IsV W v x ∧ cntV x ≤ Rows.uptoBulk d ∧ x.text.length ≤ Rows.uptoBulk d := by
  obtain ⟨x, B, c, h1, h2, -, h3, h4, h5⟩ := open_valB hv h
  exact ⟨x, ⟨B, c, h2, h1, h3⟩, h4, h5⟩
end
end Go.Proofs.Ytgdlbahfmddkaaa
/- The document's count of a value, and whether two are the same: walked. -/
namespace Go.Proofs.Ytgdlbahfmddkaaa
open Go Go.RowKit
set_option linter.unusedVariables false
set_option linter.unusedSimpArgs false
set_option maxRecDepth 100000

theorem vlC_five (v : Vl) (B : Option Addr) (c : Nat) : vlC v B c = #[.int .i64 v.kind, .int .u8 ((v.byte.toNat : Nat) : Int), .string (bs v.text), .int .i64 v.pick, .slice B v.kids.len c] := rfl
/-- The first ones' count. -/
def cntTo (s : Vs) (k : Nat) : Nat := ((s.list.take k).map cntV).sum
theorem cntTo_zero (s : Vs) : cntTo s 0 = 0 := rfl
theorem cntTo_succ {s : Vs} {k : Nat} (h : k < s.len) : cntTo s (k + 1) = cntTo s k + cntV (s.at k) := by
  unfold cntTo
  rw [List.take_add_one, Vs.at_get h, List.map_append, List.sum_append]; simp [Option.toList]
theorem cntTo_all (s : Vs) : cntTo s s.len = cntVs s := by
  unfold cntTo Vs.len
  rw [List.take_length, cntVs_list]
theorem cntTo_le (s : Vs) (k : Nat) : cntTo s k ≤ cntVs s := by
  rw [cntVs_list]
  unfold cntTo
  have e : s.list.map cntV = (s.list.take k).map cntV ++ (s.list.drop k).map cntV := by rw [← List.map_append, List.take_append_drop]
  rw [e, List.sum_append]; omega
structure MnS (w0 : World) (v : Vl) (B : Option Addr) (c : Nat) (w : World) : Prop where
  bel : Below w0.heap.size w0 w
  box : Blk w w0.heap.size (vlC v B c) 27
  row : VRow w B 0 v.kids
theorem MnS.later {w0 w w' : World} {v : Vl} {B : Option Addr} {c : Nat} (h : MnS w0 v B c w) (hb : Below w.heap.size w w') : MnS w0 v B c w' := ⟨h.bel.trans (hb.mono h.bel.size), h.box.later hb, h.row.later hb⟩
theorem MnS.new {w : World} {v : Vl} {B : Option Addr} {c : Nat} (h : VRow w B 0 v.kids) : MnS w v B c (w.alloc (.cells (vlC v B c) 27)) := by
  have HB := (Below.refl w.heap.size w).alloc (Nat.le_refl _) (.cells (vlC v B c) 27)
  exact ⟨HB, Blk.new _ _ _, h.later HB⟩
theorem vl_cells {w : World} {g : Nat} {k p : Int} {b : UInt8} {t : List UInt8} {ks : Vs} {B : Option Addr} {c : Nat} (h : Blk w g (vlC ⟨k, b, t, p, ks⟩ B c) 27) :
    w.cell? ⟨g, 0, none⟩ = some (.int .i64 k) ∧ w.cell? ⟨g, 1, none⟩ = some (.int .u8 ((b.toNat : Nat) : Int)) ∧ w.cell? ⟨g, 2, none⟩ = some (.string (bs t)) ∧ w.cell? ⟨g, 3, none⟩ = some (.int .i64 p) ∧ w.cell? ⟨g, 4, none⟩ = some (.slice B ks.len c) :=
  ⟨h.cell 0, h.cell 1, h.cell 2, h.cell 3, h.cell 4⟩
def MnL (w0 : World) (v : Vl) (B : Option Addr) (c : Nat) (n x : Value) (w : World) : Prop := ∃ k : Nat, k ≤ v.kids.len ∧ x = .int .i64 (k : Int) ∧ n = .int .i64 ((1 + cntTo v.kids k : Nat) : Int) ∧ MnS w0 v B c w
set_option maxHeartbeats 16000000 in
theorem rmany_any : ∀ (v : Vl), cntV v ≤ 4611686018427387904 → ∀ (u : Value) (w : World), IsV w u v → Calls Try.prog 17 #[u] w (Ans w (.int .i64 ((cntV v : Nat) : Int))) := fun v => by
  induction v using Vl.kids_ind with
  | h v ih =>
    intro hbig u w hu
    obtain ⟨B, c, hc, rfl, hr⟩ := hu
    have HS0 := Lib.hid (MnS.new (c := c) hr)
    have IH : Hid (∀ j, j < v.kids.len → ∀ (u : Value) (w : World), IsV w u (v.kids.at j) → Calls Try.prog 17 #[u] w (Ans w (.int .i64 ((cntV (v.kids.at j) : Nat) : Int)))) := fun j hj => ih _ (List.mem_of_getElem? (Vs.at_get hj)) (by have := cntV_kid hj; omega)
    have HV : Hid (cntV v = 1 + cntTo v.kids v.kids.len) := by unfold Hid; rw [cntTo_all]; rfl
    have hlen : v.kids.len < 4611686018427387904 := by have := cntVs_len v.kids; unfold cntV at hbig; omega
    have HT : Hid (∀ k, 1 + cntTo v.kids k ≤ 4611686018427387904) := fun k => by have := cntTo_le v.kids k; unfold cntV at hbig; omega
    have HU : Hid (∀ k, k < v.kids.len → cntTo v.kids (k + 1) = cntTo v.kids k + cntV (v.kids.at k)) := fun k hk => cntTo_succ hk
    obtain ⟨r, hrr⟩ : ∃ r, cntV v = r := ⟨_, rfl⟩
    rw [hrr] at HV ⊢
    clear ih hbig hr hrr
    obtain ⟨kk, vb, vt, vp, ks⟩ := v
    simp only at HS0 IH HV hlen HT HU hc
    rw [vlC_five]
    simp only
    go_enter Try.func17, Try.ntmps17
    go_upto_region 1 with (fail)
    rw [vlC_five] at HS0
    simp only at HS0
    generalize w.alloc (.cells #[.int .i64 kk, .int .u8 ((vb.toNat : Nat) : Int), .string (bs vt), .int .i64 vp, .slice B ks.len c] 27) = w1 at *
    go_wp2
    go_loopw [3, 4] (MnL w ⟨kk, vb, vt, vp, ks⟩ B c) (fun _ x _ => ks.len - (intOf x).toNat)
    case atStart => exact ⟨0, Nat.zero_le _, rfl, rfl, HS0.out⟩
    case round =>
      obtain ⟨k, hk, rfl, rfl, hs⟩ := hrel
      have HS := Lib.hid hs
      simp only at hk
      clear hs HS0
      obtain ⟨f0, f1, f2, f3, f4⟩ := vl_cells HS.out.box
      have ht := HT.out k
      by_cases hlt : k < ks.len
      · have hltz : (k : Int) < (ks.len : Int) := by omega
        obtain ⟨g, o, rfl, hg, hat⟩ := VRow.at_ HS.out.row hlt
        have HI : Hid (∀ B' c' w', ((ks.at k).kids).len ≤ c' → VRow w' B' 0 (ks.at k).kids → Calls Try.prog 17 #[.agg (vlC (ks.at k) B' c')] w' (Ans w' (.int .i64 ((cntV (ks.at k) : Nat) : Int)))) := fun B' c' w' h1 h2 => IH.out k hlt _ w' ⟨B', c', h1, rfl, h2⟩
        have hu := HU.out k hlt
        have ht2 := HT.out (k + 1)
        rw [hu] at ht2
        simp only at hat
        generalize ks.at k = y at *
        obtain ⟨yk, yb, yt, yp, ys⟩ := y
        obtain ⟨B', c', q0, q1, q2, q3, q4, q5, q6⟩ := hat.five
        have HC := Lib.hid (HI.out B' c' wr q0 q6)
        rw [vlC_five] at HC
        simp only at HC q1 q2 q3 q4 q5
        generalize cntV ⟨yk, yb, yt, yp, ys⟩ = cy at *
        generalize hct : cntTo ks k = ct at *
        have HU2 := Lib.hid hu
        clear hat HI q0 q6 hu hct HU HT IH
        rw [Nat.zero_add] at q1 q2 q3 q4 q5
        go_wp2_with fail
        refine HC.out.mono ?_; rintro e w2 ⟨rfl, hb⟩
        have HS2 := Lib.hid (HS.out.later hb)
        clear hb HC f0 f1 f2 f3 f4 q1 q2 q3 q4 q5
        go_wp2
        go_roundw
        case rel => exact ⟨k + 1, by simp only; omega, by go_num, by rw [HU2.out]; go_num, HS2.out⟩
        case measure => simp [intOf]; omega
      · obtain rfl : k = ks.len := by omega
        have hlast : ¬ ((ks.len : Nat) : Int) < (ks.len : Int) := by omega
        go_wp2
        go_ret
        exact ⟨by rw [HV.out, Int.natCast_add]; rfl, HS.out.bel⟩
end Go.Proofs.Ytgdlbahfmddkaaa
/- Whether two values are the same: the document's walk. -/
namespace Go.Proofs.Ytgdlbahfmddkaaa
open Go Go.RowKit
set_option linter.unusedVariables false
set_option linter.unusedSimpArgs false
set_option maxRecDepth 100000

theorem Vs.ext_at {a b : Vs} (hl : a.len = b.len) (h : ∀ j, j < a.len → a.at j = b.at j) : a = b := by
  have e : a.list = b.list := by
    refine List.ext_getElem? (fun j => ?_)
    rcases Nat.lt_or_ge j a.len with hj | hj
    · rw [Vs.at_get hj, Vs.at_get (by omega), h j hj]
    · have h1 : a.list.length ≤ j := hj
      have h2 : b.list.length ≤ j := by unfold Vs.len at hl; omega
      rw [List.getElem?_eq_none h1, List.getElem?_eq_none h2]
  rw [← Vs.of_list a, ← Vs.of_list b, e]
/-- Are they the same? -/
noncomputable def sameV (a b : Vl) : Bool := @decide (a = b) (Classical.propDecidable _)
theorem sameV_t {a b : Vl} (h : a = b) : sameV a b = true := by unfold sameV; simp [h]
theorem sameV_f {a b : Vl} (h : a ≠ b) : sameV a b = false := by unfold sameV; simp [h]
theorem sameV_iff {a b : Vl} : sameV a b = true ↔ a = b := by unfold sameV; simp
/-- One that stands in a row. -/
structure ElS (g o : Nat) (y : Vl) (B : Option Addr) (c : Nat) (w : World) : Prop where
  lt : g < w.heap.size
  cap : y.kids.len ≤ c
  cells : ∀ j, j < 5 → w.cell? ⟨g, o + j, none⟩ = (vlC y B c)[j]?
  row : VRow w B 0 y.kids
theorem ElS.later {g o : Nat} {y : Vl} {B : Option Addr} {c : Nat} {w w' : World} (h : ElS g o y B c w) (hb : Below w.heap.size w w') : ElS g o y B c w' :=
  ⟨Nat.lt_of_lt_of_le h.lt hb.size, h.cap, fun j hj => (hb.cell (p := ⟨g, o + j, none⟩) h.lt).trans (h.cells j hj), h.row.later hb⟩
theorem ElS.five {g o : Nat} {k p : Int} {b : UInt8} {t : List UInt8} {ks : Vs} {B : Option Addr} {c : Nat} {w : World} (h : ElS g o ⟨k, b, t, p, ks⟩ B c w) :
    w.cell? ⟨g, o, none⟩ = some (.int .i64 k) ∧ w.cell? ⟨g, o + 1, none⟩ = some (.int .u8 ((b.toNat : Nat) : Int)) ∧ w.cell? ⟨g, o + 2, none⟩ = some (.string (bs t)) ∧ w.cell? ⟨g, o + 3, none⟩ = some (.int .i64 p) ∧ w.cell? ⟨g, o + 4, none⟩ = some (.slice B ks.len c) :=
  ⟨h.cells 0 (by decide), h.cells 1 (by decide), h.cells 2 (by decide), h.cells 3 (by decide), h.cells 4 (by decide)⟩
theorem VRow.el {w : World} {s : Vs} {A : Option Addr} {j : Nat} (h : VRow w A 0 s) (hj : j < s.len) : ∃ g o B c, A = some ⟨g, o, none⟩ ∧ ElS g (o + j * 5) (s.at j) B c w := by
  obtain ⟨g, o, h1, h2, B, c, h3, h4, h5⟩ := VRow.at_ h hj
  rw [Nat.zero_add] at h4
  exact ⟨g, o, B, c, h1, h2, h3, h4, h5⟩
theorem ElS.isV {g o : Nat} {y : Vl} {B : Option Addr} {c : Nat} {w : World} (h : ElS g o y B c w) : IsV w (.agg (vlC y B c)) y := ⟨B, c, h.cap, rfl, h.row⟩
/-- Two values in their boxes. -/
structure SmS (w0 : World) (a b : Vl) (A B : Option Addr) (c d : Nat) (w : World) : Prop where
  bel : Below w0.heap.size w0 w
  ba : Blk w w0.heap.size (vlC a A c) 27
  bb : Blk w (w0.heap.size + 1) (vlC b B d) 27
  ra : VRow w A 0 a.kids
  rb : VRow w B 0 b.kids
theorem SmS.later {w0 w w' : World} {a b : Vl} {A B : Option Addr} {c d : Nat} (h : SmS w0 a b A B c d w) (hb : Below w.heap.size w w') : SmS w0 a b A B c d w' := ⟨h.bel.trans (hb.mono h.bel.size), h.ba.later hb, h.bb.later hb, h.ra.later hb, h.rb.later hb⟩
theorem SmS.new {w : World} {a b : Vl} {A B : Option Addr} {c d : Nat} (h : VRow w A 0 a.kids) (k : VRow w B 0 b.kids) : SmS w a b A B c d ((w.alloc (.cells (vlC a A c) 27)).alloc (.cells (vlC b B d) 27)) := by
  have HB := ((Below.refl w.heap.size w).alloc (Nat.le_refl _) (.cells (vlC a A c) 27)).alloc (by simp) (.cells (vlC b B d) 27)
  exact ⟨HB, (Blk.new w _ _).alloc _, Blk.new' (by simp) _ _, h.later HB, k.later HB⟩
structure SmE (w0 : World) (a b : Vl) (A B : Option Addr) (c d g o : Nat) (x : Vl) (Ax : Option Addr) (cx g2 o2 : Nat) (y : Vl) (Ay : Option Addr) (cy : Nat) (w : World) : Prop where
  s : SmS w0 a b A B c d w
  x : ElS g o x Ax cx w
  y : ElS g2 o2 y Ay cy w
theorem SmE.later {w0 w w' : World} {a b : Vl} {A B : Option Addr} {c d g o : Nat} {x : Vl} {Ax : Option Addr} {cx g2 o2 : Nat} {y : Vl} {Ay : Option Addr} {cy : Nat} (h : SmE w0 a b A B c d g o x Ax cx g2 o2 y Ay cy w) (hb : Below w.heap.size w w') : SmE w0 a b A B c d g o x Ax cx g2 o2 y Ay cy w' := ⟨h.s.later hb, h.x.later hb, h.y.later hb⟩
def SmL (w0 : World) (a b : Vl) (A B : Option Addr) (c d : Nat) (x : Value) (w : World) : Prop := ∃ k : Nat, k ≤ a.kids.len ∧ x = .int .i64 (k : Int) ∧ (∀ j, j < k → a.kids.at j = b.kids.at j) ∧ SmS w0 a b A B c d w
set_option maxHeartbeats 16000000 in
theorem rsame_any : ∀ (a b : Vl), a.kids.len < 4611686018427387904 → (∀ v, cntV v ≤ cntV a → v.kids.len < 4611686018427387904) → ∀ (u v : Value) (w : World), IsV w u a → IsV w v b → Calls Try.prog 15 #[u, v] w (Ans w (.bool (sameV a b))) := fun a => by
  induction a using Vl.kids_ind with
  | h a ih =>
    intro b hal hall u v w hu hv
    obtain ⟨A, c, hc, rfl, hra⟩ := hu
    obtain ⟨B, d, hd, rfl, hrb⟩ := hv
    have HS0 := Lib.hid (SmS.new (c := c) (d := d) hra hrb)
    have IH : Hid (∀ j, j < a.kids.len → ∀ (y : Vl) (u v : Value) (w : World), IsV w u (a.kids.at j) → IsV w v y → Calls Try.prog 15 #[u, v] w (Ans w (.bool (sameV (a.kids.at j) y)))) := fun j hj y => ih _ (List.mem_of_getElem? (Vs.at_get hj)) y (hall _ (Nat.le_of_lt (cntV_kid hj))) (fun v hv => hall v (Nat.le_trans hv (Nat.le_of_lt (cntV_kid hj))))
    obtain ⟨sv, hsv⟩ : ∃ sv, sameV a b = sv := ⟨_, rfl⟩
    rw [hsv]
    have HSV := Lib.hid hsv
    clear ih hra hrb hsv hall
    obtain ⟨ak, ab, at_, ap, aks⟩ := a
    obtain ⟨bk, bb, bt, bp, bks⟩ := b
    rw [vlC_five, vlC_five] at *
    simp only at HS0 IH hal hc hd ⊢
    by_cases h1 : ak = bk
    · have n1 : (ak != bk) = false := by simp [h1]
      by_cases h2 : ab = bb
      · have n2 : (((ab.toNat : Nat) : Int) != ((bb.toNat : Nat) : Int)) = false := by simp [h2]
        by_cases h3 : at_ = bt
        · have n3 : (bs at_ != bs bt) = false := by show (!(bs at_ == bs bt)) = false; rw [bs_beq, decide_eq_true h3]; rfl
          have n3t : (bs at_).toList = (bs bt).toList := by rw [h3]
          by_cases h4 : ap = bp
          · have n4 : (ap != bp) = false := by simp [h4]
            by_cases h5 : aks.len = bks.len
            · have n5 : (((aks.len : Nat) : Int) != ((bks.len : Nat) : Int)) = false := by simp [h5]
              have HEQ : Hid ((∀ j, j < aks.len → aks.at j = bks.at j) → sv = true) := fun h => by
                rw [← HSV.out]; refine sameV_t ?_; rw [h1, h2, h3, h4, Vs.ext_at h5 h]
              have HNE : Hid (∀ j, j < aks.len → aks.at j ≠ bks.at j → sv = false) := fun j hj h => by
                rw [← HSV.out]; refine sameV_f (fun e => h ?_); injection e with _ _ _ _ e; rw [e]
              have H5 := Lib.hid h5
              clear h1 h2 h3 h4 h5 HSV
              go_enter Try.func15, Try.ntmps15
              go_upto_region 1 with (fail)
              generalize (w.alloc (.cells #[.int .i64 ak, .int .u8 ((ab.toNat : Nat) : Int), .string (bs at_), .int .i64 ap, .slice A aks.len c] 27)).alloc (.cells #[.int .i64 bk, .int .u8 ((bb.toNat : Nat) : Int), .string (bs bt), .int .i64 bp, .slice B bks.len d] 27) = w1 at *
              obtain ⟨f0, f1, f2, f3, f4⟩ := vl_cells HS0.out.ba
              obtain ⟨g0, g1, g2, g3, g4⟩ := vl_cells HS0.out.bb
              go_wp2
              clear f0 f1 f2 f3 f4 g0 g1 g2 g3 g4 n1 n2 n3 n4 n5
              go_loopw [5] (SmL w ⟨ak, ab, at_, ap, aks⟩ ⟨bk, bb, bt, bp, bks⟩ A B c d) (fun x _ => aks.len - (intOf x).toNat)
              case atStart => exact ⟨0, Nat.zero_le _, rfl, fun j hj => absurd hj (Nat.not_lt_zero j), HS0.out⟩
              case round =>
                obtain ⟨k, hk, rfl, hall, hs⟩ := hrel
                simp only at hk hall
                have HS := Lib.hid hs
                have HALL := Lib.hid hall
                clear hs HS0 hall
                by_cases hlt : k < aks.len
                · have hltz : (k : Int) < (aks.len : Int) := by omega
                  have hltb : k < bks.len := by have := H5.out; omega
                  have hltbz : (k : Int) < (bks.len : Int) := by omega
                  obtain ⟨gx, ox, X, cx, rfl, hx⟩ := VRow.el HS.out.ra hlt
                  obtain ⟨gy, oy, Y, cy, rfl, hy⟩ := VRow.el HS.out.rb hltb
                  have HE0 : Hid (SmE w ⟨ak, ab, at_, ap, aks⟩ ⟨bk, bb, bt, bp, bks⟩ (some ⟨gx, ox, none⟩) (some ⟨gy, oy, none⟩) c d gx (ox + k * 5) (aks.at k) X cx gy (oy + k * 5) (bks.at k) Y cy wr) := ⟨HS.out, hx, hy⟩
                  have HC : Hid (∀ w', ElS gx (ox + k * 5) (aks.at k) X cx w' → ElS gy (oy + k * 5) (bks.at k) Y cy w' → Calls Try.prog 15 #[.agg (vlC (aks.at k) X cx), .agg (vlC (bks.at k) Y cy)] w' (Ans w' (.bool (sameV (aks.at k) (bks.at k))))) := fun w' h1 h2 => IH.out k hlt _ _ _ w' h1.isV h2.isV
                  have HYES : Hid (sameV (aks.at k) (bks.at k) = true → ∀ j, j < k + 1 → aks.at j = bks.at j) := fun h j hj => by
                    rcases Nat.lt_or_ge j k with h9 | h9
                    · exact HALL.out j h9
                    · rw [show j = k by omega]; exact sameV_iff.1 h
                  have HNO : Hid (sameV (aks.at k) (bks.at k) = false → sv = false) := fun h => HNE.out k hlt (fun e => by rw [sameV_t e] at h; cases h)
                  clear hx hy HNE HALL HS IH
                  generalize sameV (aks.at k) (bks.at k) = r at *
                  have HR : Hid (∀ j, j < k + 1 → aks.at j = bks.at j) ∨ r = false := by
                    cases r with
                    | true => exact .inl (HYES.out rfl)
                    | false => exact .inr rfl
                  have HRN : Hid (r = false → sv = false) := HNO.out
                  clear HYES HNO
                  have HSM : Hid (∀ w', SmE w ⟨ak, ab, at_, ap, aks⟩ ⟨bk, bb, bt, bp, bks⟩ (some ⟨gx, ox, none⟩) (some ⟨gy, oy, none⟩) c d gx (ox + k * 5) (aks.at k) X cx gy (oy + k * 5) (bks.at k) Y cy w' → SmS w ⟨ak, ab, at_, ap, aks⟩ ⟨bk, bb, bt, bp, bks⟩ (some ⟨gx, ox, none⟩) (some ⟨gy, oy, none⟩) c d w') := fun w' h => h.s
                  generalize aks.at k = x at HE0 HC HSM
                  generalize bks.at k = y at HE0 HC HSM
                  obtain ⟨xk, xb, xt, xp, xs⟩ := x
                  obtain ⟨yk, yb, yt, yp, ys⟩ := y
                  rw [vlC_five, vlC_five] at HC
                  simp only at HC
                  obtain ⟨f0, f1, f2, f3, f4⟩ := vl_cells HE0.out.s.ba
                  obtain ⟨g0, g1, g2, g3, g4⟩ := vl_cells HE0.out.s.bb
                  go_upto_region 6 with (fail)
                  clear f0 f1 f2 f3 f4 g0 g1 g2 g3 g4
                  refine wp_region_stable (S := (SmE w ⟨ak, ab, at_, ap, aks⟩ ⟨bk, bb, bt, bp, bks⟩ (some ⟨gx, ox, none⟩) (some ⟨gy, oy, none⟩) c d gx (ox + k * 5) ⟨xk, xb, xt, xp, xs⟩ X cx gy (oy + k * 5) ⟨yk, yb, yt, yp, ys⟩ Y cy)) (hSt := fun _ _ h hb => h.later hb) (plan := [[(2, none)], [(48, some 0)], [(5, none)], [(49, some 1), (50, some 2)], [(51, some 3)], [(3, none)], [(53, some 5)], [(5, none)], [(54, some 6), (55, some 7)], [(56, some 8)], [(52, some 4), (57, some 9)], [(58, some 10)]]) (by kernel_rfl) (by kernel_rfl) (by kernel_rfl) ?hS ?_
                  rotate_left
                  iterate 12 first
                    | (refine chain_skip (by rfl) (by rfl) ?_)
                    | (apply chain_want (by rfl)
                       · intro act wx hS hr
                         simp at hr
                         obtain ⟨f0, f1, f2, f3, f4⟩ := vl_cells hS.s.ba
                         obtain ⟨g0, g1, g2, g3, g4⟩ := vl_cells hS.s.bb
                         obtain ⟨p0, p1, p2, p3, p4⟩ := hS.x.five
                         obtain ⟨q0, q1, q2, q3, q4⟩ := hS.y.five
                         go_simp
                         (try go_ints)
                         first
                           | ((with_reducible refine (HC.out _ hS.x hS.y).mono ?_); rintro e w' ⟨rfl, hb⟩; exact Done.mk hb)
                           | exact Done.same
                      )
                  show ∀ w', _ → _
                  intro wz hz
                  simp [Act.put]
                  case hS => exact HE0.out
                  have HS2 := Lib.hid (HSM.out _ hz)
                  clear hz HE0 HC HSM
                  cases r with
                  | true =>
                    have HAL : Hid (∀ j, j < k + 1 → aks.at j = bks.at j) := by rcases HR with h | h; exact h; cases h
                    clear HR HRN
                    go_wp2
                    go_roundw
                    case rel => exact ⟨k + 1, by simp only; omega, by go_num, HAL.out, HS2.out⟩
                    case measure => simp [intOf]; omega
                  | false =>
                    have HF := HRN.out rfl
                    clear HR HRN
                    go_wp2
                    go_ret
                    exact ⟨by rw [HF]; rfl, HS2.out.bel⟩
                · obtain rfl : k = aks.len := by omega
                  have hlast : ¬ ((aks.len : Nat) : Int) < (aks.len : Int) := by omega
                  have HT := Lib.hid (HEQ.out HALL.out)
                  obtain ⟨f0, f1, f2, f3, f4⟩ := vl_cells HS.out.ba
                  clear HALL HEQ HNE IH
                  go_wp2
                  go_ret
                  exact ⟨by rw [HT.out]; rfl, HS.out.bel⟩
            · have n5 : (((aks.len : Nat) : Int) != ((bks.len : Nat) : Int)) = true := by rw [bne_iff_ne]; omega
              have HF : Hid (sv = false) := by unfold Hid; rw [← HSV.out]; exact sameV_f (fun e => h5 (by injection e with _ _ _ _ e; rw [e]))
              rw [HF.out]
              clear HSV HF IH
              try clear h5
              try clear h4
              try clear h3
              try clear h2
              try clear h1
              go_enter Try.func15, Try.ntmps15
              go_upto_region 1 with (fail)
              generalize (w.alloc (.cells #[.int .i64 ak, .int .u8 ((ab.toNat : Nat) : Int), .string (bs at_), .int .i64 ap, .slice A aks.len c] 27)).alloc (.cells #[.int .i64 bk, .int .u8 ((bb.toNat : Nat) : Int), .string (bs bt), .int .i64 bp, .slice B bks.len d] 27) = w1 at *
              obtain ⟨f0, f1, f2, f3, f4⟩ := vl_cells HS0.out.ba
              obtain ⟨g0, g1, g2, g3, g4⟩ := vl_cells HS0.out.bb
              go_wp2
              go_ret
              exact ⟨rfl, HS0.out.bel⟩
          · have n4 : (ap != bp) = true := by rw [bne_iff_ne]; exact h4
            have HF : Hid (sv = false) := by unfold Hid; rw [← HSV.out]; exact sameV_f (fun e => h4 (by injection e))
            rw [HF.out]
            clear HSV HF IH
            try clear h5
            try clear h4
            try clear h3
            try clear h2
            try clear h1
            go_enter Try.func15, Try.ntmps15
            go_upto_region 1 with (fail)
            generalize (w.alloc (.cells #[.int .i64 ak, .int .u8 ((ab.toNat : Nat) : Int), .string (bs at_), .int .i64 ap, .slice A aks.len c] 27)).alloc (.cells #[.int .i64 bk, .int .u8 ((bb.toNat : Nat) : Int), .string (bs bt), .int .i64 bp, .slice B bks.len d] 27) = w1 at *
            obtain ⟨f0, f1, f2, f3, f4⟩ := vl_cells HS0.out.ba
            obtain ⟨g0, g1, g2, g3, g4⟩ := vl_cells HS0.out.bb
            go_wp2
            go_ret
            exact ⟨rfl, HS0.out.bel⟩
        · have n3 : (bs at_ != bs bt) = true := by show (!(bs at_ == bs bt)) = true; rw [bs_beq, decide_eq_false h3]; rfl
          have n3t : ¬ (bs at_).toList = (bs bt).toList := fun e => h3 (by have := beq_toListBytes (bs at_) (bs bt); rw [bs_beq, decide_eq_false h3] at this; simp [e] at this)
          have HF : Hid (sv = false) := by unfold Hid; rw [← HSV.out]; exact sameV_f (fun e => h3 (by injection e))
          rw [HF.out]
          clear HSV HF IH
          try clear h5
          try clear h4
          try clear h3
          try clear h2
          try clear h1
          go_enter Try.func15, Try.ntmps15
          go_upto_region 1 with (fail)
          generalize (w.alloc (.cells #[.int .i64 ak, .int .u8 ((ab.toNat : Nat) : Int), .string (bs at_), .int .i64 ap, .slice A aks.len c] 27)).alloc (.cells #[.int .i64 bk, .int .u8 ((bb.toNat : Nat) : Int), .string (bs bt), .int .i64 bp, .slice B bks.len d] 27) = w1 at *
          obtain ⟨f0, f1, f2, f3, f4⟩ := vl_cells HS0.out.ba
          obtain ⟨g0, g1, g2, g3, g4⟩ := vl_cells HS0.out.bb
          go_wp2
          go_ret
          exact ⟨rfl, HS0.out.bel⟩
      · have n2 : (((ab.toNat : Nat) : Int) != ((bb.toNat : Nat) : Int)) = true := by rw [bne_iff_ne]; exact fun e => h2 (UInt8.toNat_inj.1 (by omega))
        have HF : Hid (sv = false) := by unfold Hid; rw [← HSV.out]; exact sameV_f (fun e => h2 (by injection e))
        rw [HF.out]
        clear HSV HF IH
        try clear h5
        try clear h4
        try clear h3
        try clear h2
        try clear h1
        go_enter Try.func15, Try.ntmps15
        go_upto_region 1 with (fail)
        generalize (w.alloc (.cells #[.int .i64 ak, .int .u8 ((ab.toNat : Nat) : Int), .string (bs at_), .int .i64 ap, .slice A aks.len c] 27)).alloc (.cells #[.int .i64 bk, .int .u8 ((bb.toNat : Nat) : Int), .string (bs bt), .int .i64 bp, .slice B bks.len d] 27) = w1 at *
        obtain ⟨f0, f1, f2, f3, f4⟩ := vl_cells HS0.out.ba
        obtain ⟨g0, g1, g2, g3, g4⟩ := vl_cells HS0.out.bb
        go_wp2
        go_ret
        exact ⟨rfl, HS0.out.bel⟩
    · have n1 : (ak != bk) = true := by rw [bne_iff_ne]; exact h1
      have HF : Hid (sv = false) := by unfold Hid; rw [← HSV.out]; exact sameV_f (fun e => h1 (by injection e))
      rw [HF.out]
      clear HSV HF IH
      try clear h5
      try clear h4
      try clear h3
      try clear h2
      try clear h1
      go_enter Try.func15, Try.ntmps15
      go_upto_region 1 with (fail)
      generalize (w.alloc (.cells #[.int .i64 ak, .int .u8 ((ab.toNat : Nat) : Int), .string (bs at_), .int .i64 ap, .slice A aks.len c] 27)).alloc (.cells #[.int .i64 bk, .int .u8 ((bb.toNat : Nat) : Int), .string (bs bt), .int .i64 bp, .slice B bks.len d] 27) = w1 at *
      obtain ⟨f0, f1, f2, f3, f4⟩ := vl_cells HS0.out.ba
      obtain ⟨g0, g1, g2, g3, g4⟩ := vl_cells HS0.out.bb
      go_wp2
      go_ret
      exact ⟨rfl, HS0.out.bel⟩
end Go.Proofs.Ytgdlbahfmddkaaa
/- What a value writes, kind by kind: the plain mathematics. -/
namespace Go.Proofs.Ytgdlbahfmddkaaa
open Go
set_option linter.unusedVariables false
set_option linter.unusedSimpArgs false

/-- Is a value of a kind, with a byte, a text, a pick, and so many kids? -/
def plainP (v : Vl) (k : Int) (b : UInt8) (t : List UInt8) (p : Int) (c : Nat) : Prop := v.kind = k ∧ v.byte = b ∧ v.text = t ∧ v.pick = p ∧ v.kids.len = c
instance (v : Vl) (k : Int) (b : UInt8) (t : List UInt8) (p : Int) (c : Nat) : Decidable (plainP v k b t p c) := by unfold plainP; infer_instance
theorem wr_none {l : List Nd} {i : Nat} {v : Vl} (h : ¬ headV (atN l i) v.kind v.byte v.text v.pick v.kids.len) : wrV l i v = none := by
  unfold wrV valW
  rw [if_neg (fun hh => h (by have := hh.1; rw [wrS_length] at this; exact this))]
theorem wr_kid_none {l : List Nd} {i : Nat} {v : Vl} {j : Nat} (hj : j < v.kids.len) (h : wrV l (kidN (atN l i) v.pick j).toNat (v.kids.at j) = none) : wrV l i v = none := by
  cases hw : wrV l i v with
  | none => rfl
  | some w =>
    obtain ⟨-, ws, -, hk, -⟩ := wrV_some hw
    rw [hk j hj] at h; cases h
section
variable {l : List Nd} {i : Nat} {v : Vl} {n : Nd} (hn : atN l i = n)
include hn
theorem wr_k1 (hk : n.kind = 1) : wrV l i v = if plainP v 1 0 [] 0 0 then some [] else none := by
  by_cases h : plainP v 1 0 [] 0 0
  · rw [if_pos h]
    obtain ⟨h1, h2, h3, h4, h5⟩ := h
    refine wrV_of (ws := []) (by rw [hn]; unfold headV; rw [hk]; simp [h1, h2, h3, h4, h5]) (by rw [h5]; rfl) (fun j hj => by omega) (fun _ x hx => by cases hx) ?_
    rw [hn]; unfold capW; simp [hk]
  · rw [if_neg h]
    refine wr_none (fun hh => h ?_)
    rw [hn] at hh
    unfold headV at hh
    obtain ⟨a1, a2, a3, a4, a5, a6, -⟩ := hh
    rw [if_neg (by omega)] at a4
    exact ⟨by omega, a2 (by omega), a4, by omega, a6 (by omega)⟩
theorem wr_k2 (hk : n.kind = 2) : wrV l i v = if plainP v 2 v.byte [] 0 0 ∧ n.cls.getLsbD v.byte.toNat = true then some [v.byte] else none := by
  by_cases h : plainP v 2 v.byte [] 0 0 ∧ n.cls.getLsbD v.byte.toNat = true
  · rw [if_pos h]
    obtain ⟨⟨h1, h2, h3, h4, h5⟩, h6⟩ := h
    refine wrV_of (ws := []) (by rw [hn]; unfold headV; rw [hk]; simp [h1, h3, h4, h5, h6]) (by rw [h5]; rfl) (fun j hj => by omega) (fun _ x hx => by cases hx) ?_
    rw [hn]; unfold capW; simp [hk]
  · rw [if_neg h]
    refine wr_none (fun hh => h ?_)
    rw [hn] at hh
    unfold headV at hh
    obtain ⟨a1, a2, a3, a4, a5, a6, -⟩ := hh
    rw [if_neg (by omega)] at a4
    exact ⟨⟨by omega, rfl, a4, by omega, a6 (by omega)⟩, a3 hk⟩
theorem wr_k3 (hk : n.kind = 3) : wrV l i v = if plainP v 3 0 n.text 0 0 then some n.text else none := by
  by_cases h : plainP v 3 0 n.text 0 0
  · rw [if_pos h]
    obtain ⟨h1, h2, h3, h4, h5⟩ := h
    refine wrV_of (ws := []) (by rw [hn]; unfold headV; rw [hk]; simp [h1, h2, h3, h4, h5]) (by rw [h5]; rfl) (fun j hj => by omega) (fun _ x hx => by cases hx) ?_
    rw [hn]; unfold capW; simp [hk]
  · rw [if_neg h]
    refine wr_none (fun hh => h ?_)
    rw [hn] at hh
    unfold headV at hh
    obtain ⟨a1, a2, a3, a4, a5, a6, -⟩ := hh
    rw [if_pos hk] at a4
    exact ⟨by omega, a2 (by omega), a4, by omega, a6 (by omega)⟩
def joinW : Option Wd → Option Wd → Option Wd
  | some x, some y => some (x ++ y)
  | _, _ => none
theorem wr_k4 (hk : n.kind = 4) : wrV l i v = if plainP v 4 0 [] 0 2 then joinW (wrV l n.a.toNat (v.kids.at 0)) (wrV l n.b.toNat (v.kids.at 1)) else none := by
  have k0 : ∀ p, kidN n p 0 = n.a := fun p => by unfold kidN; rw [if_neg (by omega)]
  have k1 : ∀ p, kidN n p 1 = n.b := fun p => by unfold kidN; rw [if_pos (.inl ⟨hk, rfl⟩)]
  by_cases h : plainP v 4 0 [] 0 2
  · rw [if_pos h]
    obtain ⟨h1, h2, h3, h4, h5⟩ := h
    cases hx : wrV l n.a.toNat (v.kids.at 0) with
    | none => exact wr_kid_none (j := 0) (by omega) (by rw [hn, k0]; exact hx)
    | some x =>
      cases hy : wrV l n.b.toNat (v.kids.at 1) with
      | none => exact wr_kid_none (j := 1) (by omega) (by rw [hn, k1]; exact hy)
      | some y =>
        refine wrV_of (ws := [x, y]) (by rw [hn]; unfold headV; rw [hk]; simp [h1, h2, h3, h4, h5]) (by rw [h5]; rfl) (fun j hj => ?_) (fun h => by rw [hn] at h; omega) ?_
        · rw [hn]
          rcases (by omega : j = 0 ∨ j = 1) with rfl | rfl
          · rw [k0]; exact hx
          · rw [k1]; exact hy
        · rw [hn]; unfold capW; simp [hk]
  · rw [if_neg h]
    refine wr_none (fun hh => h ?_)
    rw [hn] at hh
    unfold headV at hh
    obtain ⟨a1, a2, a3, a4, a5, a6, a7, -⟩ := hh
    rw [if_neg (by omega)] at a4
    exact ⟨by omega, a2 (by omega), a4, by omega, a7 hk⟩
theorem wr_k5 (hk : n.kind = 5) : wrV l i v = if plainP v 5 0 [] 0 1 then wrV l n.a.toNat (v.kids.at 0) else if plainP v 5 0 [] 1 1 then wrV l n.b.toNat (v.kids.at 0) else none := by
  have key : ∀ (p : Int) (q : Nat), (p = 0 ∨ p = 1) → plainP v 5 0 [] p 1 → (kidN n p 0).toNat = q → wrV l i v = wrV l q (v.kids.at 0) := fun p q hp h hq => by
    obtain ⟨h1, h2, h3, h4, h5⟩ := h
    cases hx : wrV l q (v.kids.at 0) with
    | none => exact wr_kid_none (j := 0) (by omega) (by rw [hn, h4, hq]; exact hx)
    | some x =>
      refine wrV_of (ws := [x]) (by rw [hn]; unfold headV; rw [hk]; simp [h1, h2, h3, h4, h5, hp]) (by rw [h5]; rfl) (fun j hj => ?_) (fun h => by rw [hn] at h; omega) ?_
      · obtain rfl : j = 0 := by omega
        rw [hn, h4, hq]; exact hx
      · rw [hn]; unfold capW; simp [hk]
  by_cases h : plainP v 5 0 [] 0 1
  · rw [if_pos h]
    exact key 0 _ (.inl rfl) h (by unfold kidN; rw [if_neg (by omega)])
  · rw [if_neg h]
    by_cases h' : plainP v 5 0 [] 1 1
    · rw [if_pos h']
      exact key 1 _ (.inr rfl) h' (by unfold kidN; rw [if_pos (.inr ⟨hk, rfl⟩)])
    · rw [if_neg h']
      refine wr_none (fun hh => ?_)
      rw [hn] at hh
      unfold headV at hh
      obtain ⟨a1, a2, a3, a4, a5, a6, a7, a8, -⟩ := hh
      rw [if_neg (by omega)] at a4
      rcases a5 with a5 | ⟨-, a5⟩
      · exact h ⟨by omega, a2 (by omega), a4, a5, a8 (by omega)⟩
      · exact h' ⟨by omega, a2 (by omega), a4, a5, a8 (by omega)⟩
/-- Of any number of kids: are they words, of a byte or more? -/
theorem wr_k67 (hk : n.kind = 6 ∨ n.kind = 7) {ws : List Wd} (h : plainP v n.kind 0 [] 0 v.kids.len) (h7 : n.kind = 7 → n.lo ≤ (v.kids.len : Int) ∧ (v.kids.len : Int) ≤ n.hi) (hl : ws.length = v.kids.len) (hw : ∀ j, j < v.kids.len → wrV l n.a.toNat (v.kids.at j) = some (ws.getD j [])) (hne : ∀ x ∈ ws, x ≠ []) : wrV l i v = some ws.flatten := by
  obtain ⟨h1, h2, h3, h4, -⟩ := h
  have hkd : ∀ p j, kidN n p j = n.a := fun p j => by unfold kidN; rw [if_neg (by omega)]
  refine wrV_of (ws := ws) (by rw [hn]; unfold headV; refine ⟨h1, fun _ => h2, fun h => by omega, by rw [if_neg (by omega)]; exact h3, .inl h4, fun h => by omega, fun h => by omega, fun h => by omega, h7⟩) hl (fun j hj => by rw [hn, hkd]; exact hw j hj) (fun _ => hne) ?_
  rw [hn]; unfold capW; rw [if_neg (by omega), if_neg (by omega), if_neg (by omega), if_neg (by omega)]
theorem wr_k67_bad (hk : n.kind = 6 ∨ n.kind = 7) {j : Nat} (hj : j < v.kids.len) (h : wrV l n.a.toNat (v.kids.at j) = none ∨ wrV l n.a.toNat (v.kids.at j) = some []) : wrV l i v = none := by
  have hkd : ∀ p j, kidN n p j = n.a := fun p j => by unfold kidN; rw [if_neg (by omega)]
  rcases h with h | h
  · exact wr_kid_none hj (by rw [hn, hkd]; exact h)
  · cases hw : wrV l i v with
    | none => rfl
    | some w =>
      obtain ⟨-, ws, hl, hkk, hne, -⟩ := wrV_some hw
      rw [hn] at hkk hne
      have := hkk j hj
      rw [hkd, h] at this
      injection this with this
      exact absurd this.symm (hne hk _ (by rw [List.getD_eq_getElem?_getD, List.getElem?_eq_getElem (by omega)]; exact List.getElem_mem _))
theorem wr_k67_no (hk : n.kind = 6 ∨ n.kind = 7) (h : ¬ (plainP v n.kind 0 [] 0 v.kids.len ∧ (n.kind = 7 → n.lo ≤ (v.kids.len : Int) ∧ (v.kids.len : Int) ≤ n.hi))) : wrV l i v = none := by
  refine wr_none (fun hh => h ?_)
  rw [hn] at hh
  unfold headV at hh
  obtain ⟨a1, a2, a3, a4, a5, a6, a7, a8, a9⟩ := hh
  rw [if_neg (by omega)] at a4
  exact ⟨⟨a1, a2 (by omega), a4, by omega, rfl⟩, a9⟩
def frmW (k : Int) : Option Wd → Option Wd
  | none => none
  | some x => if k = 8 then (if x.length ≤ 255 then some (byU x.length :: x) else none) else (if x.length ≤ 65535 then some (byU (x.length / 256) :: byU (x.length % 256) :: x) else none)
theorem wr_k89 (hk : n.kind = 8 ∨ n.kind = 9) : wrV l i v = if plainP v n.kind 0 [] 0 1 then frmW n.kind (wrV l n.a.toNat (v.kids.at 0)) else none := by
  have hkd : ∀ p j, kidN n p j = n.a := fun p j => by unfold kidN; rw [if_neg (by omega)]
  by_cases h : plainP v n.kind 0 [] 0 1
  · rw [if_pos h]
    obtain ⟨h1, h2, h3, h4, h5⟩ := h
    cases hx : wrV l n.a.toNat (v.kids.at 0) with
    | none => exact wr_kid_none (j := 0) (by omega) (by rw [hn, hkd]; exact hx)
    | some x =>
      have hcap : capW n v.byte [x].flatten = frmW n.kind (some x) := by
        unfold capW frmW
        simp only [List.flatten_cons, List.flatten_nil, List.append_nil]
        rw [if_neg (by omega), if_neg (by omega)]
        rcases hk with e | e
        · simp [e]
        · simp [e]
      cases hf : frmW n.kind (some x) with
      | none =>
        cases hw : wrV l i v with
        | none => rfl
        | some w =>
          exfalso
          obtain ⟨-, ws, hl, hkk, -, hc⟩ := wrV_some hw
          rw [hn] at hkk hc
          obtain ⟨y, rfl⟩ := List.length_eq_one_iff.1 (by rw [hl, h5] : ws.length = 1)
          have := hkk 0 (by omega)
          rw [hkd, hx] at this
          have : x = y := by simpa using this
          subst this
          rw [hcap, hf] at hc
          cases hc
      | some z =>
        refine wrV_of (ws := [x]) (by rw [hn]; unfold headV; refine ⟨h1, fun _ => h2, fun h => by omega, by rw [if_neg (by omega)]; exact h3, .inl h4, fun h => by omega, fun h => by omega, fun _ => h5, fun h => by omega⟩) (by rw [h5]; rfl) (fun j hj => ?_) (fun h => by rw [hn] at h; omega) ?_
        · obtain rfl : j = 0 := by omega
          rw [hn, hkd]; exact hx
        · rw [hn, hcap, hf]
  · rw [if_neg h]
    refine wr_none (fun hh => h ?_)
    rw [hn] at hh
    unfold headV at hh
    obtain ⟨a1, a2, a3, a4, a5, a6, a7, a8, -⟩ := hh
    rw [if_neg (by omega)] at a4
    exact ⟨a1, a2 (by omega), a4, by omega, a8 (by omega)⟩
end
end Go.Proofs.Ytgdlbahfmddkaaa
