/- Values opened as arguments. -/
import Derived.Test.YtgdlbahfmddkaaaM11
import Derived.Test.YtgdlbahfmddkaaaM19
import Derived.Test.YtgdlbahfmddkaaaM07
import Derived.Test.YtgdlbahfmddkaaaM12
import Derived.Test.YtgdlbahfmddkaaaRows
import Derived.BigQuiet
namespace Go.Proofs.Ytgdlbahfmddkaaa
open Go Go.RowKit Go.ChangeShapes Go.WideShapes Go.ChangeAt Go.Joins
set_option maxRecDepth 100000
set_option linter.unusedVariables false
set_option linter.unusedSimpArgs false

theorem cellsVal : Try.prog.cellsOf 27 = 5 := by kernel_rfl
theorem cellsVals : Try.prog.cellsOf 25 = 1 := by kernel_rfl
theorem cellsU8v : Try.prog.cellsOf 5 = 1 := by kernel_rfl
theorem bulk_part {H : Type} {d : DataW H} : ∀ {l : List (DataW H)}, d ∈ l → Rows.uptoBulk d ≤ Rows.uptoBulkAll l
  | x :: r, h => by
    rw [Rows.uptoBulkAll]
    rcases List.mem_cons.1 h with rfl | h
    · exact Nat.le_add_right _ _
    · exact Nat.le_trans (bulk_part h) (Nat.le_add_left _ _)
theorem bulk_sum {H : Type} {D : Nat → DataW H} {f : Nat → Vl} : ∀ (l : List Nat), (∀ i ∈ l, cntV (f i) ≤ Rows.uptoBulk (D i)) → ((l.map f).map cntV).sum ≤ Rows.uptoBulkAll (l.map D)
  | [], _ => by simp [Rows.uptoBulkAll]
  | i :: l, h => by
    have h1 := h i (by simp)
    have h2 := bulk_sum l (fun j hj => h j (List.mem_cons_of_mem _ hj))
    simp only [List.map_cons, List.sum_cons, Rows.uptoBulkAll]
    omega
section
variable {H : Type} {enc : TypeId × Value → H} {W : World} {base : Nat} {v : Value} {d : DataW H} {p : List MemPlace}
/-- What a value's cells are. -/
structure ValW (W : World) (cs : List Value) (v : Vl) (B : Option Addr) (c s : Nat) : Prop where
  cap : v.kids.len ≤ c
  nilc : B = none → c = 0
  cells : ∀ j, j < 5 → cs[j]? = (vlC v B c)[j]?
  row : VRow W B 0 v.kids
  cnt : cntV v ≤ s
  txt : v.text.length ≤ s
theorem val_words : ∀ (s n : Nat) (cs : List Value) (x : DataW H × List MemPlace), Rows.uptoBulk x.1 = s → cs.length = 5 → DataW.trod enc Try.prog W 0 (fun _ => true) true n 27 cs = some x → ∃ (v : Vl) (B : Option Addr) (c : Nat), ValW W cs v B c s := fun s => by
  induction s using Nat.strongRecOn with
  | ind s ih =>
    intro n cs x hs hlen h
    obtain ⟨xs, m, _, rfl, _, hn, hel⟩ := DataW.trod_struct Try.underlying27 h
    match cs, hlen with
    | [c0, c1, c2, c3, c4], _ =>
      match xs, hn with
      | [y0, y1, y2, y3, y4], _ =>
        have e0 : DataW.trod enc Try.prog W 0 (fun _ => true) true m 3 [c0] = some y0 := by have h := hel 0 _ rfl; simp [cellsI] at h; exact h
        have e1 : DataW.trod enc Try.prog W 0 (fun _ => true) true m 5 [c1] = some y1 := by have h := hel 1 _ rfl; simp [cellsU8v] at h; exact h
        have e2 : DataW.trod enc Try.prog W 0 (fun _ => true) true m 9 [c2] = some y2 := by have h := hel 2 _ rfl; simp [cellsS] at h; exact h
        have e3 : DataW.trod enc Try.prog W 0 (fun _ => true) true m 3 [c3] = some y3 := by have h := hel 3 _ rfl; simp [cellsI] at h; exact h
        have e4 : DataW.trod enc Try.prog W 0 (fun _ => true) true m 25 [c4] = some y4 := by have h := hel 4 _ rfl; simp [cellsVals] at h; exact h
        obtain ⟨a0, h0, _, _⟩ := DataW.trod_int Try.underlying3 e0
        obtain ⟨a1, h1, _, wf1⟩ := DataW.trod_int Try.underlying5 e1
        obtain ⟨t, h2, hy2, _⟩ := DataW.trod_string Try.underlying9 e2
        obtain ⟨a3, h3, _, _⟩ := DataW.trod_int Try.underlying3 e3
        simp at h0 h1 h2 h3
        subst h0 h1 h2 h3
        obtain ⟨b, rfl, hb⟩ := u8_nat wf1
        have hbulk : Rows.uptoBulk y2.1 + Rows.uptoBulk y4.1 + 1 ≤ s := by
          rw [← hs]; simp only [List.map_cons, List.map_nil, Rows.uptoBulk, Rows.uptoBulkAll]; omega
        have htb : t.data.toList.length ≤ s := by
          have : Rows.uptoBulk y2.1 = t.data.toList.length + 1 := by rw [hy2]; simp [Rows.uptoBulk]
          omega
        have hby : (((UInt8.ofNat b).toNat : Nat) : Int) = (b : Int) := by simp; omega
        rcases Go.Deep.open_slice Try.underlying25 e4 with ⟨hcs, _⟩ | ⟨xa, ln, cp, mm, n', D, Pl, hcs, hbb, hl, hm, hmm, hx, hi⟩
        · simp at hcs
          subst hcs
          refine ⟨⟨a0, UInt8.ofNat b, t.data.toList, a3, .nil⟩, none, 0, Nat.le_refl _, fun _ => rfl, fun j hj => ?_, trivial, by show 1 + 0 ≤ s; omega, htb⟩
          unfold vlC
          rcases (by omega : j = 0 ∨ j = 1 ∨ j = 2 ∨ j = 3 ∨ j = 4) with rfl | rfl | rfl | rfl | rfl
          · rfl
          · simp only; rw [hby]; rfl
          · simp; exact (bs_self t).symm
          · rfl
          · rfl
        · simp at hcs
          subst hcs
          simp only [if_true] at hmm
          subst hmm
          have hD : Rows.uptoBulkAll ((List.range ln).map D) + 1 ≤ Rows.uptoBulk y4.1 := by rw [hx]; simp only [Rows.uptoBulk]; omega
          have key : ∀ i, i < ln → ∃ (v : Vl) (B : Option Addr) (c : Nat), v.kids.len ≤ c ∧ (∀ j, j < 5 → W.cell? (xa.add (i * 5 + j)) = (vlC v B c)[j]?) ∧ VRow W B 0 v.kids ∧ cntV v ≤ Rows.uptoBulk (D i) := by
            intro i hil
            obtain ⟨cs', hc, ht⟩ := hi i (by omega)
            rw [cellsVal] at hc
            obtain ⟨_, hcl, hat⟩ := World.cells?_some hc
            have hpart := bulk_part (List.mem_map.2 ⟨i, List.mem_range.2 hil, rfl⟩ : D i ∈ (List.range ln).map D)
            obtain ⟨v, B, c, hv⟩ := ih (Rows.uptoBulk (D i)) (by omega) n' cs' (D i, Pl i) rfl hcl ht
            exact ⟨v, B, c, hv.cap, fun j hj => by rw [← Go.Deep.add_add, hat j hj, hv.cells j hj], hv.row, hv.cnt⟩
          let f : Nat → Vl := fun i => if h : i < ln then Classical.choose (key i h) else vl0
          have hfs : ∀ i (hil : i < ln), ∃ (B : Option Addr) (c : Nat), (f i).kids.len ≤ c ∧ (∀ j, j < 5 → W.cell? (xa.add (i * 5 + j)) = (vlC (f i) B c)[j]?) ∧ VRow W B 0 (f i).kids ∧ cntV (f i) ≤ Rows.uptoBulk (D i) := fun i hil => by
            have hfi : f i = Classical.choose (key i hil) := by simp [f, hil]
            rw [hfi]; exact Classical.choose_spec (key i hil)
          have hlist : (Vs.of ((List.range ln).map f)).list = (List.range ln).map f := Vs.list_of _
          have hlen2 : (Vs.of ((List.range ln).map f)).len = ln := by unfold Vs.len; rw [hlist]; simp
          have hsum := bulk_sum (D := D) (f := f) (List.range ln) (fun i hi2 => by
            obtain ⟨_, _, _, _, _, h9⟩ := hfs i (List.mem_range.1 hi2); exact h9)
          refine ⟨⟨a0, UInt8.ofNat b, t.data.toList, a3, Vs.of ((List.range ln).map f)⟩, some xa, mm, by simp only [hlen2]; exact hl, (fun e => by cases e), fun j hj => ?_, ?_, ?_, htb⟩
          · unfold vlC
            simp only [hlen2]
            rcases (by omega : j = 0 ∨ j = 1 ∨ j = 2 ∨ j = 3 ∨ j = 4) with rfl | rfl | rfl | rfl | rfl
            · rfl
            · rw [hby]; rfl
            · simp; exact (bs_self t).symm
            · rfl
            · rfl
          · by_cases hz : ln = 0
            · subst hz; exact trivial
            · obtain ⟨g, off, spot⟩ := xa
              obtain ⟨B0, c00, _, hc00, _⟩ := hfs 0 (by omega)
              have hc00 := hc00 0 (by omega)
              have hspot : spot = none := by
                have hc : (vlC (f 0) B0 c00)[0]? = some (.int .i64 (f 0).kind) := rfl
                rw [hc] at hc00
                simpa [Addr.add] using World.cell?_spot hc00
              subst hspot
              have hadd : ∀ k, (⟨g, off, none⟩ : Addr).add k = ⟨g, off + k, none⟩ := fun k => by cases k <;> simp [Addr.add]
              have hg : g < W.heap.size := by
                have hc : (vlC (f 0) B0 c00)[0]? = some (.int .i64 (f 0).kind) := rfl
                rw [hc] at hc00
                have := World.block_lt_of_cell? W _ hc00
                rw [hadd] at this; exact this
              refine VRow.of hg (fun j hj => ?_)
              rw [hlen2] at hj
              obtain ⟨Bj, cj, k1, k2, k3, _⟩ := hfs j hj
              have hatj : (Vs.of ((List.range ln).map f)).at j = f j := by unfold Vs.at; rw [hlist]; simp [hj]
              rw [hatj]
              refine ⟨Bj, cj, k1, fun q hq => ?_, k3⟩
              have := k2 q hq
              rw [hadd] at this
              rw [Nat.zero_add, ← this]; congr 2; omega
          · show 1 + cntVs (Vs.of ((List.range ln).map f)) ≤ s
            rw [cntVs_list, hlist]; omega
/-- With where its kids stand told: none at all, or a row. -/
theorem open_valB (hv : Value.okWide Try.prog W .any base 27 v) (h : DataW.Trod enc Try.prog W 0 (fun _ => true) true 27 v d p) : ∃ (x : Vl) (B : Option Addr) (c : Nat), v = .agg (vlC x B c) ∧ x.kids.len ≤ c ∧ (B = none → c = 0) ∧ VRow W B 0 x.kids ∧ cntV x ≤ Rows.uptoBulk d ∧ x.text.length ≤ Rows.uptoBulk d := by
  obtain ⟨cs, rfl, hsz⟩ := okWide_struct Try.underlying27 hv
  rw [cellsVal] at hsz
  obtain ⟨fuel, hf⟩ := h
  obtain ⟨x, B, c, hx⟩ := val_words (Rows.uptoBulk d) fuel cs.toList (d, p) rfl (by rw [Array.length_toList]; exact hsz) (by simpa [Value.cells] using hf)
  refine ⟨x, B, c, ?_, hx.cap, hx.nilc, hx.row, hx.cnt, hx.txt⟩
  congr 1
  refine Array.ext_getElem? (fun j => ?_)
  rcases Nat.lt_or_ge j 5 with hj | hj
  · rw [← hx.cells j hj, Array.getElem?_toList]
  · rw [Array.getElem?_eq_none (by omega), Array.getElem?_eq_none (by show 5 ≤ j; omega)]
theorem open_val (hv : Value.okWide Try.prog W .any base 27 v) (h : DataW.Trod enc Try.prog W 0 (fun _ => true) true 27 v d p) : ∃ x : Vl, IsV W v x ∧ cntV x ≤ Rows.uptoBulk d ∧ x.text.length ≤ Rows.uptoBulk d := by
  obtain ⟨x, B, c, h1, h2, -, h3, h4, h5⟩ := open_valB hv h
  exact ⟨x, ⟨B, c, h2, h1, h3⟩, h4, h5⟩
end
end Go.Proofs.Ytgdlbahfmddkaaa
/- The document's count of a value, and whether two are the same: walked. -/
namespace Go.Proofs.Ytgdlbahfmddkaaa
open Go Go.RowKit
set_option linter.unusedVariables false
set_option linter.unusedSimpArgs false
set_option maxRecDepth 100000

theorem vlC_five (v : Vl) (B : Option Addr) (c : Nat) : vlC v B c = #[.int .i64 v.kind, .int .u8 ((v.byte.toNat : Nat) : Int), .string (bs v.text), .int .i64 v.pick, .slice B v.kids.len c] := rfl
/-- The first ones' count. -/
def cntTo (s : Vs) (k : Nat) : Nat := ((s.list.take k).map cntV).sum
theorem cntTo_zero (s : Vs) : cntTo s 0 = 0 := rfl
theorem cntTo_succ {s : Vs} {k : Nat} (h : k < s.len) : cntTo s (k + 1) = cntTo s k + cntV (s.at k) := by
  unfold cntTo
  rw [List.take_add_one, Vs.at_get h, List.map_append, List.sum_append]; simp [Option.toList]
theorem cntTo_all (s : Vs) : cntTo s s.len = cntVs s := by
  unfold cntTo Vs.len
  rw [List.take_length, cntVs_list]
theorem cntTo_le (s : Vs) (k : Nat) : cntTo s k ≤ cntVs s := by
  rw [cntVs_list]
  unfold cntTo
  have e : s.list.map cntV = (s.list.take k).map cntV ++ (s.list.drop k).map cntV := by rw [← List.map_append, List.take_append_drop]
  rw [e, List.sum_append]; omega
structure MnS (w0 : World) (v : Vl) (B : Option Addr) (c : Nat) (w : World) : Prop where
  bel : Below w0.heap.size w0 w
  box : Blk w w0.heap.size (vlC v B c) 27
  row : VRow w B 0 v.kids
theorem MnS.later {w0 w w' : World} {v : Vl} {B : Option Addr} {c : Nat} (h : MnS w0 v B c w) (hb : Below w.heap.size w w') : MnS w0 v B c w' := ⟨h.bel.trans (hb.mono h.bel.size), h.box.later hb, h.row.later hb⟩
theorem MnS.new {w : World} {v : Vl} {B : Option Addr} {c : Nat} (h : VRow w B 0 v.kids) : MnS w v B c (w.alloc (.cells (vlC v B c) 27)) := by
  have HB := (Below.refl w.heap.size w).alloc (Nat.le_refl _) (.cells (vlC v B c) 27)
  exact ⟨HB, Blk.new _ _ _, h.later HB⟩
theorem vl_cells {w : World} {g : Nat} {k p : Int} {b : UInt8} {t : List UInt8} {ks : Vs} {B : Option Addr} {c : Nat} (h : Blk w g (vlC ⟨k, b, t, p, ks⟩ B c) 27) :
    w.cell? ⟨g, 0, none⟩ = some (.int .i64 k) ∧ w.cell? ⟨g, 1, none⟩ = some (.int .u8 ((b.toNat : Nat) : Int)) ∧ w.cell? ⟨g, 2, none⟩ = some (.string (bs t)) ∧ w.cell? ⟨g, 3, none⟩ = some (.int .i64 p) ∧ w.cell? ⟨g, 4, none⟩ = some (.slice B ks.len c) :=
  ⟨h.cell 0, h.cell 1, h.cell 2, h.cell 3, h.cell 4⟩
def MnL (w0 : World) (v : Vl) (B : Option Addr) (c : Nat) (n x : Value) (w : World) : Prop := ∃ k : Nat, k ≤ v.kids.len ∧ x = .int .i64 (k : Int) ∧ n = .int .i64 ((1 + cntTo v.kids k : Nat) : Int) ∧ MnS w0 v B c w
set_option maxHeartbeats 16000000 in
theorem rmany_any : ∀ (v : Vl), cntV v ≤ 4611686018427387904 → ∀ (u : Value) (w : World), IsV w u v → Calls Try.prog 17 #[u] w (Ans w (.int .i64 ((cntV v : Nat) : Int))) := fun v => by
  induction v using Vl.kids_ind with
  | h v ih =>
    intro hbig u w hu
    obtain ⟨B, c, hc, rfl, hr⟩ := hu
    have HS0 := Lib.hid (MnS.new (c := c) hr)
    have IH : Hid (∀ j, j < v.kids.len → ∀ (u : Value) (w : World), IsV w u (v.kids.at j) → Calls Try.prog 17 #[u] w (Ans w (.int .i64 ((cntV (v.kids.at j) : Nat) : Int)))) := fun j hj => ih _ (List.mem_of_getElem? (Vs.at_get hj)) (by have := cntV_kid hj; omega)
    have HV : Hid (cntV v = 1 + cntTo v.kids v.kids.len) := by unfold Hid; rw [cntTo_all]; rfl
    have hlen : v.kids.len < 4611686018427387904 := by have := cntVs_len v.kids; unfold cntV at hbig; omega
    have HT : Hid (∀ k, 1 + cntTo v.kids k ≤ 4611686018427387904) := fun k => by have := cntTo_le v.kids k; unfold cntV at hbig; omega
    have HU : Hid (∀ k, k < v.kids.len → cntTo v.kids (k + 1) = cntTo v.kids k + cntV (v.kids.at k)) := fun k hk => cntTo_succ hk
    obtain ⟨r, hrr⟩ : ∃ r, cntV v = r := ⟨_, rfl⟩
    rw [hrr] at HV ⊢
    clear ih hbig hr hrr
    obtain ⟨kk, vb, vt, vp, ks⟩ := v
    simp only at HS0 IH HV hlen HT HU hc
    rw [vlC_five]
    simp only
    go_enter Try.func17, Try.ntmps17
    go_upto_region 1 with (fail)
    rw [vlC_five] at HS0
    simp only at HS0
    generalize w.alloc (.cells #[.int .i64 kk, .int .u8 ((vb.toNat : Nat) : Int), .string (bs vt), .int .i64 vp, .slice B ks.len c] 27) = w1 at *
    go_wp2
    go_loopw [3, 4] (MnL w ⟨kk, vb, vt, vp, ks⟩ B c) (fun _ x _ => ks.len - (intOf x).toNat)
    case atStart => exact ⟨0, Nat.zero_le _, rfl, rfl, HS0.out⟩
    case round =>
      obtain ⟨k, hk, rfl, rfl, hs⟩ := hrel
      have HS := Lib.hid hs
      simp only at hk
      clear hs HS0
      obtain ⟨f0, f1, f2, f3, f4⟩ := vl_cells HS.out.box
      have ht := HT.out k
      by_cases hlt : k < ks.len
      · have hltz : (k : Int) < (ks.len : Int) := by omega
        obtain ⟨g, o, rfl, hg, hat⟩ := VRow.at_ HS.out.row hlt
        have HI : Hid (∀ B' c' w', ((ks.at k).kids).len ≤ c' → VRow w' B' 0 (ks.at k).kids → Calls Try.prog 17 #[.agg (vlC (ks.at k) B' c')] w' (Ans w' (.int .i64 ((cntV (ks.at k) : Nat) : Int)))) := fun B' c' w' h1 h2 => IH.out k hlt _ w' ⟨B', c', h1, rfl, h2⟩
        have hu := HU.out k hlt
        have ht2 := HT.out (k + 1)
        rw [hu] at ht2
        simp only at hat
        generalize ks.at k = y at *
        obtain ⟨yk, yb, yt, yp, ys⟩ := y
        obtain ⟨B', c', q0, q1, q2, q3, q4, q5, q6⟩ := hat.five
        have HC := Lib.hid (HI.out B' c' wr q0 q6)
        rw [vlC_five] at HC
        simp only at HC q1 q2 q3 q4 q5
        generalize cntV ⟨yk, yb, yt, yp, ys⟩ = cy at *
        generalize hct : cntTo ks k = ct at *
        have HU2 := Lib.hid hu
        clear hat HI q0 q6 hu hct HU HT IH
        rw [Nat.zero_add] at q1 q2 q3 q4 q5
        go_wp2_with fail
        refine HC.out.mono ?_; rintro e w2 ⟨rfl, hb⟩
        have HS2 := Lib.hid (HS.out.later hb)
        clear hb HC f0 f1 f2 f3 f4 q1 q2 q3 q4 q5
        go_wp2
        go_roundw
        case rel => exact ⟨k + 1, by simp only; omega, by go_num, by rw [HU2.out]; go_num, HS2.out⟩
        case measure => simp [intOf]; omega
      · obtain rfl : k = ks.len := by omega
        have hlast : ¬ ((ks.len : Nat) : Int) < (ks.len : Int) := by omega
        go_wp2
        go_ret
        exact ⟨by rw [HV.out, Int.natCast_add]; rfl, HS.out.bel⟩
end Go.Proofs.Ytgdlbahfmddkaaa
/- Whether two values are the same: the document's walk. -/
namespace Go.Proofs.Ytgdlbahfmddkaaa
open Go Go.RowKit
set_option linter.unusedVariables false
set_option linter.unusedSimpArgs false
set_option maxRecDepth 100000

theorem Vs.ext_at {a b : Vs} (hl : a.len = b.len) (h : ∀ j, j < a.len → a.at j = b.at j) : a = b := by
  have e : a.list = b.list := by
    refine List.ext_getElem? (fun j => ?_)
    rcases Nat.lt_or_ge j a.len with hj | hj
    · rw [Vs.at_get hj, Vs.at_get (by omega), h j hj]
    · have h1 : a.list.length ≤ j := hj
      have h2 : b.list.length ≤ j := by unfold Vs.len at hl; omega
      rw [List.getElem?_eq_none h1, List.getElem?_eq_none h2]
  rw [← Vs.of_list a, ← Vs.of_list b, e]
/-- Are they the same? -/
noncomputable def sameV (a b : Vl) : Bool := @decide (a = b) (Classical.propDecidable _)
theorem sameV_t {a b : Vl} (h : a = b) : sameV a b = true := by unfold sameV; simp [h]
theorem sameV_f {a b : Vl} (h : a ≠ b) : sameV a b = false := by unfold sameV; simp [h]
/-- One that stands in a row. -/
structure ElS (g o : Nat) (y : Vl) (B : Option Addr) (c : Nat) (w : World) : Prop where
  lt : g < w.heap.size
  cap : y.kids.len ≤ c
  cells : ∀ j, j < 5 → w.cell? ⟨g, o + j, none⟩ = (vlC y B c)[j]?
  row : VRow w B 0 y.kids
theorem ElS.later {g o : Nat} {y : Vl} {B : Option Addr} {c : Nat} {w w' : World} (h : ElS g o y B c w) (hb : Below w.heap.size w w') : ElS g o y B c w' :=
  ⟨Nat.lt_of_lt_of_le h.lt hb.size, h.cap, fun j hj => (hb.cell (p := ⟨g, o + j, none⟩) h.lt).trans (h.cells j hj), h.row.later hb⟩
theorem ElS.five {g o : Nat} {k p : Int} {b : UInt8} {t : List UInt8} {ks : Vs} {B : Option Addr} {c : Nat} {w : World} (h : ElS g o ⟨k, b, t, p, ks⟩ B c w) :
    w.cell? ⟨g, o, none⟩ = some (.int .i64 k) ∧ w.cell? ⟨g, o + 1, none⟩ = some (.int .u8 ((b.toNat : Nat) : Int)) ∧ w.cell? ⟨g, o + 2, none⟩ = some (.string (bs t)) ∧ w.cell? ⟨g, o + 3, none⟩ = some (.int .i64 p) ∧ w.cell? ⟨g, o + 4, none⟩ = some (.slice B ks.len c) :=
  ⟨h.cells 0 (by decide), h.cells 1 (by decide), h.cells 2 (by decide), h.cells 3 (by decide), h.cells 4 (by decide)⟩
theorem VRow.el {w : World} {s : Vs} {A : Option Addr} {j : Nat} (h : VRow w A 0 s) (hj : j < s.len) : ∃ g o B c, A = some ⟨g, o, none⟩ ∧ ElS g (o + j * 5) (s.at j) B c w := by
  obtain ⟨g, o, h1, h2, B, c, h3, h4, h5⟩ := VRow.at_ h hj
  rw [Nat.zero_add] at h4
  exact ⟨g, o, B, c, h1, h2, h3, h4, h5⟩
theorem ElS.isV {g o : Nat} {y : Vl} {B : Option Addr} {c : Nat} {w : World} (h : ElS g o y B c w) : IsV w (.agg (vlC y B c)) y := ⟨B, c, h.cap, rfl, h.row⟩
end Go.Proofs.Ytgdlbahfmddkaaa
/- What a value writes, kind by kind: the plain mathematics. -/
namespace Go.Proofs.Ytgdlbahfmddkaaa
open Go
set_option linter.unusedVariables false
set_option linter.unusedSimpArgs false

/-- Is a value of a kind, with a byte, a text, a pick, and so many kids? -/
def plainP (v : Vl) (k : Int) (b : UInt8) (t : List UInt8) (p : Int) (c : Nat) : Prop := v.kind = k ∧ v.byte = b ∧ v.text = t ∧ v.pick = p ∧ v.kids.len = c
instance (v : Vl) (k : Int) (b : UInt8) (t : List UInt8) (p : Int) (c : Nat) : Decidable (plainP v k b t p c) := by unfold plainP; infer_instance
theorem wr_none {l : List Nd} {i : Nat} {v : Vl} (h : ¬ headV (atN l i) v.kind v.byte v.text v.pick v.kids.len) : wrV l i v = none := by
  unfold wrV valW
  rw [if_neg (fun hh => h (by have := hh.1; rw [wrS_length] at this; exact this))]
section
variable {l : List Nd} {i : Nat} {v : Vl} {n : Nd} (hn : atN l i = n)
include hn
end
end Go.Proofs.Ytgdlbahfmddkaaa
