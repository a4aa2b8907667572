/- What the statements of layer 11 ask of words: plain mathematics. -/
import Derived.Test.YtgdlbahfmddkaaaM21
import Derived.Test.YtgdlbahfmddkaaaM31
import Derived.Test.YtgdlbahfmddkaaaM10
namespace Go.Proofs.Ytgdlbahfmddkaaa
open Go
set_option linter.unusedVariables false
set_option linter.unusedSimpArgs false

theorem wr_head {l : List Nd} {i : Nat} {v : Vl} {w : Wd} (h : wrV l i v = some w) : headV (atN l i) v.kind v.byte v.text v.pick v.kids.len := (wrV_some h).1
theorem kind_range {l : List Nd} (hF : Form l) {i : Nat} (hi : i < l.length) : 1 ≤ (atN l i).kind ∧ (atN l i).kind ≤ 9 := by
  obtain ⟨-, hk⟩ := hF.2.1 i hi
  omega
/-- Of another kind. -/
theorem only_kind {l : List Nd} (hF : Form l) {i : Nat} (hi : i < l.length) {v : Vl} {w : Wd} (h : wrV l i v = some w) : 1 ≤ v.kind ∧ v.kind ≤ 9 ∧ wrV l i { v with kind := 1 + v.kind % 9 } = none := by
  have hh := wr_head h
  have hr := kind_range hF hi
  unfold headV at hh
  obtain ⟨h1, -⟩ := hh
  refine ⟨by omega, by omega, wr_none (fun h2 => ?_)⟩
  unfold headV at h2
  obtain ⟨h3, -⟩ := h2
  simp only at h3
  omega
/-- With a text that isn't the node's. -/
theorem only_text {l : List Nd} {i : Nat} {v : Vl} {w : Wd} (h : wrV l i v = some w) (t : List UInt8) (ht : t ≠ []) : wrV l i { v with text := v.text ++ t } = none := by
  have hh := wr_head h
  unfold headV at hh
  obtain ⟨-, -, -, h4, -⟩ := hh
  refine wr_none (fun h2 => ?_)
  unfold headV at h2
  obtain ⟨-, -, -, h5, -⟩ := h2
  simp only at h5
  rw [← h4] at h5
  exact ht (List.append_right_eq_self.1 h5)
/-- With a byte that isn't its own. -/
theorem only_byte {l : List Nd} {i : Nat} {v : Vl} {w : Wd} (h : wrV l i v = some w) (hk : v.kind ≠ 2) (b : UInt8) : (wrV l i { v with byte := b }).isSome = decide (b = v.byte) := by
  have hh := wr_head h
  unfold headV at hh
  obtain ⟨h1, h2, -⟩ := hh
  have hb : v.byte = 0 := h2 (by omega)
  by_cases e : b = v.byte
  · have : ({ v with byte := b } : Vl) = v := by rw [e]
    rw [this, h, decide_eq_true e]; rfl
  · rw [wr_none, decide_eq_false e]
    · rfl
    · intro h3
      unfold headV at h3
      obtain ⟨-, h4, -⟩ := h3
      exact e (by rw [hb]; exact h4 (by omega))
/-- With a kid more. -/
theorem only_kids {l : List Nd} {i : Nat} {v : Vl} {w : Wd} (hF : Form l) (hi : i < l.length) (h : wrV l i v = some w) (hk : v.kind ≠ 6 ∧ v.kind ≠ 7) (s : Vs) (hs : s.len = v.kids.len + 1) : wrV l i { v with kids := s } = none := by
  have hh := wr_head h
  have hr := kind_range hF hi
  unfold headV at hh
  obtain ⟨h1, -, -, -, -, h6, h7, h8, -⟩ := hh
  refine wr_none (fun h2 => ?_)
  unfold headV at h2
  obtain ⟨-, -, -, -, -, k6, k7, k8, -⟩ := h2
  simp only at k6 k7 k8
  omega
end Go.Proofs.Ytgdlbahfmddkaaa
/- Rows of values that a call owns; appends. -/
namespace Go.Proofs.Ytgdlbahfmddkaaa
open Go Go.RowKit
set_option linter.unusedVariables false
set_option linter.unusedSimpArgs false

/-- A value, and where its kids stand. -/
structure VCl where
  v : Vl
  B : Option Addr
  c : Nat
def vcl0 : VCl := ⟨vl0, none, 0⟩
def VCl.cells (x : VCl) : Array Value := vlC x.v x.B x.c
def flatV : List VCl → List Value
  | [] => []
  | t :: l => t.cells.toList ++ flatV l
theorem VCl.five (t : VCl) : t.cells.toList.length = 5 := rfl
theorem flatV_length : ∀ l, (flatV l).length = l.length * 5
  | [] => rfl
  | t :: l => by rw [flatV, List.length_append, flatV_length l, VCl.five, List.length_cons]; omega
theorem flatV_append : ∀ l m, flatV (l ++ m) = flatV l ++ flatV m
  | [], m => rfl
  | t :: l, m => by show t.cells.toList ++ flatV (l ++ m) = _; rw [flatV_append l m, flatV, List.append_assoc]
theorem flatV_get : ∀ (l : List VCl) (i j : Nat), i < l.length → j < 5 → (flatV l)[i * 5 + j]? = (l.getD i vcl0).cells[j]?
  | [], i, j, h, _ => by simp at h
  | s :: l, 0, j, _, hj => by
    rw [flatV, List.getElem?_append_left (by rw [VCl.five]; omega)]
    simp
  | s :: l, i + 1, j, hi, hj => by
    have ih := flatV_get l i j (by simpa using hi) hj
    show (s.cells.toList ++ flatV l)[(i + 1) * 5 + j]? = _
    rw [List.getElem?_append_right (by rw [VCl.five]; omega), VCl.five, show (i + 1) * 5 + j - 5 = i * 5 + j by omega, ih]
    simp
theorem flatV_ones : ∀ (l : List VCl) (u : Value), u ∈ flatV l → u.oneCell' = true
  | [], u, h => by cases h
  | t :: l, u, h => by
    rw [flatV, List.mem_append] at h
    rcases h with h | h
    · simp [VCl.cells, vlC] at h
      rcases h with rfl | rfl | rfl | rfl | rfl <;> rfl
    · exact flatV_ones l u h
/-- A row of values, as cells. -/
def ClRow (w : World) (a : Option Addr) (l : List VCl) : Prop :=
  ∀ i, i < l.length → ∃ b off, a = some ⟨b, off, none⟩ ∧ b < w.heap.size ∧ ∀ j, j < 5 → w.cell? ⟨b, off + i * 5 + j, none⟩ = (l.getD i vcl0).cells[j]?
/-- Their kids. -/
def CKids (w : World) (l : List VCl) : Prop := ∀ x ∈ l, x.v.kids.len ≤ x.c ∧ VRow w x.B 0 x.v.kids
theorem CKids.later {w w' : World} {l : List VCl} (h : CKids w l) (hb : Below w.heap.size w w') : CKids w' l := fun x hx => ⟨(h x hx).1, (h x hx).2.later hb⟩
theorem CKids.append {w : World} {l m : List VCl} (h : CKids w l) (k : CKids w m) : CKids w (l ++ m) := fun x hx => by
  rcases List.mem_append.1 hx with h1 | h1
  · exact h x h1
  · exact k x h1
/-- A row that is read, as cells. -/
theorem VRow.toC {w : World} {A : Option Addr} {s : Vs} (h : VRow w A 0 s) : ∃ l : List VCl, l.length = s.len ∧ l.map (·.v) = s.list ∧ ClRow w A l ∧ CKids w l := by
  have key : ∀ i, i < s.len → ∃ x : VCl, x.v = s.at i ∧ (∃ g o, A = some ⟨g, o, none⟩ ∧ g < w.heap.size ∧ ∀ j, j < 5 → w.cell? ⟨g, o + i * 5 + j, none⟩ = x.cells[j]?) ∧ x.v.kids.len ≤ x.c ∧ VRow w x.B 0 x.v.kids := fun i hi => by
    obtain ⟨g, o, h1, h2, B, c, h3, h4, h5⟩ := VRow.at_ h hi
    rw [Nat.zero_add] at h4
    exact ⟨⟨s.at i, B, c⟩, rfl, ⟨g, o, h1, h2, h4⟩, h3, h5⟩
  let f : Nat → VCl := fun i => if h : i < s.len then Classical.choose (key i h) else vcl0
  have hf : ∀ i (hi : i < s.len), (f i).v = s.at i ∧ (∃ g o, A = some ⟨g, o, none⟩ ∧ g < w.heap.size ∧ ∀ j, j < 5 → w.cell? ⟨g, o + i * 5 + j, none⟩ = (f i).cells[j]?) ∧ (f i).v.kids.len ≤ (f i).c ∧ VRow w (f i).B 0 (f i).v.kids := fun i hi => by
    have e : f i = Classical.choose (key i hi) := by simp [f, hi]
    rw [e]; exact Classical.choose_spec (key i hi)
  refine ⟨(List.range s.len).map f, by simp, ?_, fun i hi => ?_, fun x hx => ?_⟩
  · refine List.ext_getElem? (fun j => ?_)
    rcases Nat.lt_or_ge j s.len with hj | hj
    · rw [Vs.at_get hj]; simp [hj, (hf j hj).1]
    · rw [List.getElem?_eq_none (by simp; omega), List.getElem?_eq_none hj]
  · have hi2 : i < s.len := by simpa using hi
    obtain ⟨-, ⟨g, o, h1, h2, h3⟩, -⟩ := hf i hi2
    refine ⟨g, o, h1, h2, fun j hj => ?_⟩
    rw [h3 j hj]; simp [hi2]
  · obtain ⟨i, hi, rfl⟩ := List.mem_map.1 hx
    exact (hf i (List.mem_range.1 hi)).2.2
theorem ClRow.toV {w : World} {A : Option Addr} {l : List VCl} (h : ClRow w A l) (k : CKids w l) : VRow w A 0 (Vs.of (l.map (·.v))) := by
  by_cases hz : l.length = 0
  · rw [List.length_eq_zero_iff.1 hz]; exact trivial
  · obtain ⟨g, o, rfl, hg, -⟩ := h 0 (by omega)
    refine VRow.of hg (fun j hj => ?_)
    have hj2 : j < l.length := by unfold Vs.len at hj; rw [Vs.list_of] at hj; simpa using hj
    obtain ⟨b, o', e, -, hc⟩ := h j hj2
    cases e
    have hm : l.getD j vcl0 ∈ l := by rw [List.getD_eq_getElem?_getD, List.getElem?_eq_getElem hj2]; exact List.getElem_mem _
    have ha : (Vs.of (l.map (·.v))).at j = (l.getD j vcl0).v := by unfold Vs.at; rw [Vs.list_of]; simp [hj2]
    rw [ha]
    refine ⟨(l.getD j vcl0).B, (l.getD j vcl0).c, (k _ hm).1, fun q hq => ?_, (k _ hm).2⟩
    rw [Nat.zero_add]; exact hc q hq
def OwnVs (w : World) (base : Nat) (v : Value) (l : List VCl) : Prop := w.ownsRow base 27 5 v l.length (flatV l)
theorem OwnVs.later {w w' : World} {base : Nat} {v : Value} {l : List VCl} (h : OwnVs w base v l) (hb : Below w.heap.size w w') : OwnVs w' base v l := ownsRow_later h hb
theorem OwnVs.row {w : World} {base : Nat} {v : Value} {l : List VCl} (h : OwnVs w base v l) : ∃ a cap, v = .slice a l.length cap ∧ l.length ≤ cap ∧ ClRow w a l := by
  obtain ⟨_, ⟨hv, hn⟩ | ⟨g, cap, cur, hv, hb, hg, hc, hm, hs, ht⟩⟩ := h
  · have : l = [] := List.length_eq_zero_iff.1 hn
    subst this
    exact ⟨none, 0, hv, Nat.le_refl _, fun i hi => by simp at hi⟩
  · refine ⟨_, cap, hv, hc, fun i hi => ⟨g, 0, rfl, Blk.lt (w := w) (b := g) (vs := cur) (t := 27) hg, fun j hj => ?_⟩⟩
    rw [Blk.cell (w := w) (b := g) (vs := cur) (t := 27) hg, ← flatV_get l i j hi hj, ← ht, List.getElem?_take, if_pos (by omega)]
    simp
theorem OwnVs.empty {w : World} {base b : Nat} (h : Blk w b #[] 27) (hb : base ≤ b) : OwnVs w base (.slice (some ⟨b, 0, none⟩) 0 0) [] :=
  ⟨rfl, .inr ⟨b, 0, #[], rfl, hb, h, Nat.le_refl _, Nat.zero_le _, rfl, rfl⟩⟩
theorem infoVal : (Try.prog.info? 27).map (fun i => (i.zero, i.size, i.bytes)) = some (some (.agg #[.int .i64 0, .int .u8 0, .string ⟨#[]⟩, .int .i64 0, .slice none 0 0]), 5, 64) := by kernel_rfl
theorem ClRow.news {w : World} {b oo : Nat} {r : List VCl} (hr : ClRow w (some ⟨b, oo, none⟩) r) : ∀ (j : Nat) (u : Value), (flatV r)[j]? = some u → w.cell? ((⟨b, oo, none⟩ : Addr).add j) = some u := by
  intro j u hu
  have hj : j < r.length * 5 := by rw [← flatV_length]; exact (List.getElem?_eq_some_iff.1 hu).1
  have hd : j / 5 < r.length := by omega
  obtain ⟨b', off, hA, _, hc⟩ := hr (j / 5) hd
  cases hA
  have h1 := hc (j % 5) (Nat.mod_lt _ (by decide))
  rw [← flatV_get r (j / 5) (j % 5) hd (Nat.mod_lt _ (by decide)), show j / 5 * 5 + j % 5 = j by omega, hu] at h1
  have hadd : (⟨b, oo, none⟩ : Addr).add j = ⟨b, oo + j, none⟩ := by unfold Addr.add; split <;> simp_all
  rw [hadd, ← h1]; congr 2; omega
end Go.Proofs.Ytgdlbahfmddkaaa
/- Appends to rows of values that a call owns, in a region that may come in any order: what stays. -/
namespace Go.Proofs.Ytgdlbahfmddkaaa
open Go Go.RowKit
set_option linter.unusedVariables false
set_option linter.unusedSimpArgs false

section
variable {P : Program}
/-- What an append does to blocks: none but new ones, or its own row's alone, behind what is there. -/
theorem run_append_keep (w : World) (base : Nat) (t ty e : TypeId) (i : TypeInfo) (z : Value) (size bytes : Nat) (ht : P.underlying t = some (.slice e)) (hi : P.info? e = some i) (hz : i.zero = some z)
    (hsize : i.size = size) (hby : i.bytes = bytes) (hzs : z.cells.size = size) (hsz : 0 < size)
    (v : Value) (n : Nat) (xs : List Value) (hown : w.ownsRow base e size v n xs)
    (a : Addr) (m c : Nat) (news : List Value) (hl : news.length = m * size) (hnews : ∀ j u, news[j]? = some u → w.cell? (a.add j) = some u) (h1 : ∀ u ∈ news, u.oneCell' = true)
    (h63 : n + m ≤ maxLen) (hbytes : (n + m) * bytes ≤ 140737488355328) (hbase : base ≤ w.heap.size) :
    ∃ v' w', (Builtin.append_ #[t, t] ty #[v, .slice (some a) m c]).run P w = .ok v' w' ∧ w'.ownsRow base e size v' (n + m) (xs ++ news) ∧ w.grownBy w' v.ownBlock ∧
      (w.grownBy w' none ∨ ∃ g cap cur cur2, v = .slice (some ⟨g, 0, none⟩) n cap ∧ n + m ≤ cap ∧ Blk w g cur e ∧ Blk w' g cur2 e ∧ cur.size = cap * size ∧ cur2.size = cap * size ∧ cur2.toList.take ((n + m) * size) = xs ++ news) := by
  obtain ⟨v', w', hr, h2, h3, _⟩ := run_append_own (P := P) w base t ty e i z size bytes ht hi hz hsize hby hzs hsz v n xs hown a m c news hl hnews h1 h63 hbytes hbase
  refine ⟨v', w', hr, h2, h3, ?_⟩
  rcases hown.2 with ⟨rfl, hn⟩ | ⟨g', cap, cur, rfl, hbg, hgg, hnc, hcm, hcs, htake⟩
  · exact .inl h3
  · by_cases hroom : n + m ≤ cap
    · right
      have hr2 := run_append_room (P := P) w t ty e i ht hi g' n cap cur hgg a m c news (by rw [hsize]; exact hl) hnews h1 hroom (by rw [hsize, hl, hcs, ← Nat.add_mul]; exact Nat.mul_le_mul_right _ hroom)
      rw [hr] at hr2
      simp only [Result.ok.injEq] at hr2
      rw [hsize, htake] at hr2
      have hle : n * size + m * size ≤ cap * size := by rw [← Nat.add_mul]; exact Nat.mul_le_mul_right _ hroom
      have hxl : xs.length = n * size := hown.1
      refine ⟨g', cap, cur, (xs ++ news ++ cur.toList.drop (n * size + news.length)).toArray, rfl, hroom, hgg, by rw [hr2.2]; exact setRow_heap w g' cur _ e _ hgg, hcs, ?_, ?_⟩
      · simp only [List.size_toArray, List.length_append, List.length_drop, Array.length_toList, hxl, hl]; omega
      · rw [List.toList_toArray, List.take_left' (by rw [List.length_append, hxl, hl, Nat.add_mul])]
    · left
      have holds := World.ownsRow.cells (w := w) (base := base) (e := e) (size := size) (v := .slice (some ⟨g', 0, none⟩) n cap) (n := n) (xs := xs) hown (g := g') rfl
      have hr2 := run_append_grow (P := P) w t ty e i z ht hi hz ⟨g', 0, none⟩ n cap xs (by rw [hsize]; exact hown.1) holds a m c news (by rw [hsize]; exact hl) hnews (by omega) (by unfold maxLen at h63; omega) (by rw [hby]; exact growslice_fits (by omega) hbytes)
      rw [hr] at hr2
      simp only [Result.ok.injEq] at hr2
      rw [hr2.2]
      exact ⟨rfl, rfl, rfl, by simp, fun k hk _ => Below.heap_alloc w.drew _ k hk⟩
end
/-- What a region does that makes the row L of values: its beginnings stay, and blocks of the one value mc. -/
structure VwR (H : Nat) (L : List VCl) (mc : Array Value) (w w' : World) : Prop where
  out : H ≤ w.heap.size → (Below H w w' ∧ (∀ u U, U <+: L → OwnVs w H u U → OwnVs w' H u U) ∧ (∀ g, Blk w g mc 27 → Blk w' g mc 27))
theorem VwR.of {H : Nat} {L : List VCl} {mc : Array Value} (w w' : World) (hb : Below w.heap.size w w') : VwR H L mc w w' := ⟨fun h => ⟨hb.mono h, fun u U _ k => k.later hb, fun g k => k.later hb⟩⟩
theorem flatV_take : ∀ (l : List VCl) (n : Nat), (flatV l).take (n * 5) = flatV (l.take n)
  | [], n => by simp [flatV]
  | t :: l, 0 => by simp [flatV]
  | t :: l, n + 1 => by
    rw [flatV, List.take_succ_cons, flatV, ← flatV_take l n, List.take_append, VCl.five, show (n + 1) * 5 - 5 = n * 5 by omega, List.take_of_length_le (by rw [VCl.five]; omega)]
set_option maxRecDepth 100000 in
theorem wp_append_vk {w : World} {o : Oper} {a : Act} {K : Act → World → Prop} {Q : Exit → Act → World → Prop} (s x : Operand)
    (ho : o.op = .call { callee := .builtin .append, args := #[s, x], argTypes := #[25, 25] })
    (H : Nat) (v : Value) (l : List VCl) (hs : a.eval s = v) (hown : OwnVs w H v l)
    (A : Option Addr) (c : Nat) (r : List VCl) (hx : a.eval x = .slice A r.length c) (hr : ClRow w A r) (hnil : A = none → r = [] ∧ c = 0) (hlen : l.length + r.length < 1073741824) (hH : H ≤ w.heap.size)
    (L : List VCl) (hL : L = l ++ r ∨ ∃ g, v = .slice (some ⟨g, 0, none⟩) 0 0) (mc : Array Value) (hmc : mc.size = 5) (hbig : 2 ≤ l.length + r.length ∨ ∃ g, v = .slice (some ⟨g, 0, none⟩) 0 0)
    (h : ∀ v' w', OwnVs w' H v' (l ++ r) → (r = [] → v' = v) → VwR H L mc w w' → K (a.put o.dst v') w') : o.wp Try.prog a w K Q := by
  obtain ⟨ib, hib, hz0, hz1, hz2⟩ := info_parts infoVal
  by_cases hre : r = []
  · subst hre
    have key : ∃ w', (Builtin.append_ #[25, 25] o.type #[v, .slice A 0 c]).run Try.prog w = .ok v w' ∧ Below w.heap.size w w' := by
      cases A with
      | none =>
        obtain ⟨-, rfl⟩ := hnil rfl
        exact ⟨w, run_append_owned_none (P := Try.prog) (w := w) H 25 o.type 27 ib 5 Try.underlying25 hib v _ _ hown, Below.refl _ _⟩
      | some q =>
        have hown0 : w.ownsRow H 27 5 v l.length (flatV l) := hown
        rcases hown0.2 with ⟨hv, hn⟩ | ⟨g, cap, cur, hv, hbg, hgg, hnc, hcm, hcs, htake⟩
        · obtain ⟨v', w', hrr, h2, h3, h4⟩ := run_append_own (P := Try.prog) w H 25 o.type 27 ib _ 5 64 Try.underlying25 hib hz0 hz1 hz2 rfl (by decide) v l.length (flatV l) hown0 q 0 c [] rfl (fun j u hu => by simp at hu) (fun u hu => by cases hu) (by unfold maxLen; omega) (by omega) hH
          have e : v' = v := by rw [hv]; exact h4.2 ⟨hv, rfl⟩
          subst e
          exact ⟨w', hrr, ⟨h3.os, h3.tape, h3.output, h3.size, fun k hk => h3.block k hk (by rw [hv]; simp [Value.ownBlock])⟩⟩
        · have hr2 := run_append_room (P := Try.prog) w 25 o.type 27 ib Try.underlying25 hib g l.length cap cur hgg q 0 c [] (by simp) (fun j u hu => by simp at hu) (fun u hu => by cases hu) hnc (by rw [hz1, hcs]; simp; omega)
          simp only [Nat.add_zero] at hr2
          rw [← hv] at hr2
          refine ⟨_, hr2, ⟨rfl, rfl, rfl, by simp, fun k hk => ?_⟩⟩
          by_cases hkg : k = g
          · subst hkg
            rw [setRow_heap w k cur _ 27 (0, 0) hgg, hgg]
            simp
          · exact setRow_other w g k _ hkg
    obtain ⟨w', hrr, hb⟩ := key
    unfold Oper.wp execOp
    simp only [List.length_nil] at hx
    simp only [ho, resolve, invoke, builtin, Sem.run_bind, Sem.run_pure, Result.andThen_ok, List.map_toArray, List.map_cons, List.map_nil, hs, hx, hrr]
    exact h v w' (by rw [List.append_nil]; exact hown.later hb) (fun _ => rfl) (VwR.of w w' hb)
  · have hrp : 0 < r.length := List.length_pos_iff.2 hre
    obtain ⟨b, oo, rfl, -, -⟩ := hr 0 hrp
    have hown0 : w.ownsRow H 27 5 v l.length (flatV l) := hown
    obtain ⟨v', w', hrr, h2, h3, h4⟩ := run_append_keep (P := Try.prog) w H 25 o.type 27 ib _ 5 64 Try.underlying25 hib hz0 hz1 hz2 rfl (by decide) v l.length (flatV l) hown0 ⟨b, oo, none⟩ r.length c (flatV r) (flatV_length r) hr.news (flatV_ones r) (by unfold maxLen; omega) (by omega) hH
    unfold Oper.wp execOp
    simp only [ho, resolve, invoke, builtin, Sem.run_bind, Sem.run_pure, Result.andThen_ok, List.map_toArray, List.map_cons, List.map_nil, hs, hx, hrr]
    refine h v' w' (by unfold OwnVs; rw [List.length_append, flatV_append]; exact h2) (fun e => absurd e hre) ⟨fun _ => ⟨(Below.refl H w).grown h3 hH (fun k hk => (World.ownsRow.lt hown0 k hk).1), fun u U hU hu => ?_, fun g' hg' => ?_⟩⟩
    · rcases h4 with h4 | ⟨g, cap, cur, cur2, hv, hcap, k1, k2, k3, k4, k5⟩
      · exact World.ownsRow.kept hu h4 (by cases hh : u.ownBlock <;> simp)
      · by_cases hgu : u.ownBlock = some g
        · obtain ⟨u0, ⟨u1, _⟩ | ⟨g3, cap3, cur3, u1, u2, u3, u4, u5, u6, u7⟩⟩ := hu
          · rw [u1] at hgu; cases hgu
          · rw [u1] at hgu
            have e3 : g3 = g := by simpa [Value.ownBlock] using hgu
            subst e3
            have e4 := u3.symm.trans k1
            simp only [Option.some.injEq, Obj.cells.injEq, and_true] at e4
            subst e4
            have e5 : cap3 = cap := by omega
            have hLe : L = l ++ r := by
              rcases hL with e | ⟨g9, hv9⟩
              · exact e
              · rw [hv9] at hv
                simp only [Value.slice.injEq] at hv
                omega
            refine ⟨u0, .inr ⟨g3, cap3, cur2, u1, u2, k2, u4, u5, by rw [k4, e5], ?_⟩⟩
            obtain ⟨V, hV⟩ := hU
            have hlr : l ++ r = U ++ V := by rw [← hLe, hV]
            have e6 : cur2.toList.take (U.length * 5) = (cur2.toList.take ((l.length + r.length) * 5)).take (U.length * 5) := by
              rw [List.take_take]
              congr 1
              have := congrArg List.length hlr
              rw [List.length_append, List.length_append] at this
              omega
            rw [e6, k5, ← flatV_append, flatV_take, hlr, List.take_left]
        · exact World.ownsRow.kept hu h3 (by right; rw [hv]; exact hgu)
    · rcases h4 with h4 | ⟨g, cap, cur, cur2, hv, hcap, k1, k2, k3, k4, k5⟩
      · exact (h4.block g' hg'.lt (by simp)).trans hg'
      · have hne : g' ≠ g := fun e => by
          subst e
          unfold Blk at hg' k1
          rw [hg'] at k1
          simp only [Option.some.injEq, Obj.cells.injEq, and_true] at k1
          rw [← k1, hmc] at k3
          rcases hbig with hb | ⟨g9, hv9⟩
          · omega
          · rw [hv9] at hv
            simp only [Value.slice.injEq] at hv
            omega
        exact (h3.block g' hg'.lt (by rw [hv]; simp [Value.ownBlock]; exact hne)).trans hg'
end Go.Proofs.Ytgdlbahfmddkaaa
/- The statement ValueOnly of layer 11, walked, of a program that writes values as it should. -/
namespace Go.Proofs.Ytgdlbahfmddkaaa
open Go Go.RowKit
set_option linter.unusedVariables false
set_option linter.unusedSimpArgs false

/-- What the appends of a Kid more leave. -/
structure VoS (H : Nat) (w0 w : World) : Prop where
  lo : H ≤ w.heap.size
  bel : Below H w0 w
theorem VoS.grow {H : Nat} {w0 w w' : World} {L : List VCl} {mc : Array Value} (h : VoS H w0 w) (hr : VwR H L mc w w') : VoS H w0 w' := ⟨Nat.le_trans h.lo (hr.out h.lo).1.size, h.bel.trans (hr.out h.lo).1⟩
def VpE (H : Nat) (v : Value) (w : World) : Prop := H ≤ w.heap.size ∧ (∃ g, v = .slice (some ⟨g, 0, none⟩) 0 0) ∧ OwnVs w H v []
theorem VpE.grow (H : Nat) (L : List VCl) (mc : Array Value) : ∀ v w w', VpE H v w → VwR H L mc w w' → VpE H v w' := fun v w w' h hr => ⟨Nat.le_trans h.1 (hr.out h.1).1.size, h.2.1, (hr.out h.1).2.1 v [] (List.nil_prefix) h.2.2⟩
def VpK (H : Nat) (K : List VCl) (v : Value) (w : World) : Prop := H ≤ w.heap.size ∧ (K = [] → ∃ g, v = .slice (some ⟨g, 0, none⟩) 0 0) ∧ OwnVs w H v K
theorem VpK.grow (H : Nat) (K L : List VCl) (mc : Array Value) (hK : K <+: L) : ∀ v w w', VpK H K v w → VwR H L mc w w' → VpK H K v w' := fun v w w' h hr => ⟨Nat.le_trans h.1 (hr.out h.1).1.size, h.2.1, (hr.out h.1).2.1 v K hK h.2.2⟩
def VpM (H : Nat) (mc : Array Value) (v : Value) (w : World) : Prop := H ≤ w.heap.size ∧ ∃ g, v = .slice (some ⟨g, 0, none⟩) 1 1 ∧ Blk w g mc 27
theorem VpM.grow (H : Nat) (L : List VCl) (mc : Array Value) : ∀ v w w', VpM H mc v w → VwR H L mc w w' → VpM H mc v w' := fun v w w' h hr => by
  obtain ⟨h1, g, h2, h3⟩ := h
  exact ⟨Nat.le_trans h1 (hr.out h1).1.size, g, h2, (hr.out h1).2.2 g h3⟩
theorem five_cells {w : World} {g : Nat} {a b c d e : Value} {t : TypeId} (h : Blk w g #[a, b, c, d, e] t) : w.cell? ⟨g, 0, none⟩ = some a ∧ w.cell? ⟨g, 1, none⟩ = some b ∧ w.cell? ⟨g, 2, none⟩ = some c ∧ w.cell? ⟨g, 3, none⟩ = some d ∧ w.cell? ⟨g, 4, none⟩ = some e := ⟨h.cell 0, h.cell 1, h.cell 2, h.cell 3, h.cell 4⟩
theorem ClRow.later {w w' : World} {A : Option Addr} {l : List VCl} (h : ClRow w A l) (hb : Below w.heap.size w w') : ClRow w' A l := fun i hi => by
  obtain ⟨b, off, h1, h2, h3⟩ := h i hi
  exact ⟨b, off, h1, Nat.lt_of_lt_of_le h2 hb.size, fun j hj => (hb.cell (p := ⟨b, off + i * 5 + j, none⟩) h2).trans (h3 j hj)⟩
theorem clrow_one {w : World} {g : Nat} {x : VCl} (h : Blk w g x.cells 27) : ClRow w (some ⟨g, 0, none⟩) [x] := fun i hi => by
  obtain rfl : i = 0 := by simpa using hi
  exact ⟨g, 0, rfl, h.lt, fun j hj => by simp only [Nat.zero_mul, Nat.zero_add]; exact h.cell j⟩
set_option maxHeartbeats 64000000 in
set_option maxRecDepth 1000000 in
theorem valueonly_walk (HWR : WriteC) (HAW : Awake11) (l : List Nd) (A : Option Addr) (c : Nat) (v u : Vl) (B : Option Addr) (cv : Nat) (y : Value) (b : Nat) (hb256 : b < 256) (hc1 : l.length ≤ c) (hl : l.length ≤ 9223372036854775807) (htx : Txt l) (hcv : v.kids.len ≤ cv) (hnil : B = none → cv = 0) (hv : cntV v ≤ 1048576) (hu : cntV u ≤ 1048576) (w : World) (hrow : NRow w A l) (hkv : VRow w B 0 v.kids) (hy : IsV w y u) :
    Calls Try.prog 5 #[.agg #[.slice A l.length c], .agg (vlC v B cv), y, .int .u8 (b : Int)] w (Ans w (.bool true)) := by
  obtain ⟨D, cu, hcu, rfl, hku⟩ := hy
  have HS0 := Lib.hid (VuS.new w A l c v B cv u D cu hrow hkv hku)
  have HTX := Lib.hid htx
  have FV : Hid (∀ w', VuS w A l c v B cv u D cu w' → Calls Try.prog 10 #[.agg (vlC v B cv)] w' (Ans w' (.bool (fewV v)))) := fun w' h => rfewv_any v (by omega) _ w' ⟨B, cv, hcv, rfl, h.rv⟩
  have FU : Hid (∀ w', VuS w A l c v B cv u D cu w' → Calls Try.prog 10 #[.agg (vlC u D cu)] w' (Ans w' (.bool (fewV u)))) := fun w' h => rfewv_any u (by omega) _ w' ⟨D, cu, hcu, rfl, h.ru⟩
  have CW : Hid (∀ (t : Vl) (B' : Option Addr) (c' : Nat) (w' : World), Sp l → (∀ n ∈ l, n.text.length ≤ 2000) → NRow w' A l → cntV t ≤ 1000 → t.kids.len ≤ c' → VRow w' B' 0 t.kids → Calls Try.prog 11 #[.agg #[.slice A l.length c], .agg (vlC t B' c')] w' (PrV w' (wrD l t))) :=
    fun t B' c' w' h1 h2 h h3 h4 h5 => HWR l A c t _ w' h1.sm.form hc1 (by have := h1.sm.len; omega) h2 (by omega) h ⟨B', c', h4, rfl, h5⟩
  have HCN : Hid (fewV v = true → fewV u = true → cntV v ≤ 400 ∧ cntV u ≤ 400) := fun h1 h2 => by unfold fewV at h1 h2; simp at h1 h2; omega
  have HCV := Lib.hid hcv
  have HCU := Lib.hid hcu
  have HNL := Lib.hid hnil
  generalize fewV v = fv at *
  generalize fewV u = fu at *
  clear hrow hkv hku htx hv hu HWR hnil
  obtain ⟨vk, vb, vt, vp, ks⟩ := v
  obtain ⟨uk, ub, ut, up, us⟩ := u
  simp only [vlC_five] at HS0 FV FU ⊢
  simp only at HCV HCU hcv hcu
  go_enter Try.func5, Try.ntmps5
  go_upto_region 1 with (fail)
  generalize ((w.alloc (.cells #[.slice A l.length c] 24)).alloc (.cells #[.int .i64 vk, .int .u8 ((vb.toNat : Nat) : Int), .string (bs vt), .int .i64 vp, .slice B ks.len cv] 27)).alloc (.cells #[.int .i64 uk, .int .u8 ((ub.toNat : Nat) : Int), .string (bs ut), .int .i64 up, .slice D us.len cu] 27) = w1 at *
  go_wp2_with fail
  refine (HAW _).mono ?_; rintro e w2 ⟨rfl, hb⟩
  have HS2 := Lib.hid (HS0.out.later hb)
  clear hb HS0
  have d0 := HS2.out.box.cell 0
  simp at d0
  obtain ⟨b0, b1, b2, b3, b4⟩ := vl_cells HS2.out.bv
  obtain ⟨c0, c1, c2, c3, c4⟩ := vl_cells HS2.out.bu
  have HF := Lib.hid (few_any l A c hl HTX.out _ HS2.out.row)
  cases hf : fewB l with
  | false =>
    rw [hf] at HF
    clear hf
    go_wp2_with fail
    refine HF.out.mono ?_; rintro e wa ⟨rfl, hb⟩
    have HSZ := Lib.hid (HS2.out.later hb)
    clear hb d0 b0 b1 b2 b3 b4 c0 c1 c2 c3 c4 HF HS2
    go_wp2_with fail
    refine (HAW _).mono ?_; rintro e WN ⟨rfl, hb⟩
    have HSY := Lib.hid (HSZ.out.later hb)
    clear hb
    go_wp2
    go_ret
    exact ⟨rfl, HSY.out.bel⟩
  | true =>
    rw [hf] at HF
    have KF := Lib.hid hf
    clear hf
    go_wp2_with fail
    refine HF.out.mono ?_; rintro e w3 ⟨rfl, hb⟩
    have HS3 := Lib.hid (HS2.out.later hb)
    clear hb d0 b0 b1 b2 b3 b4 c0 c1 c2 c3 c4 HF HS2
    have d0 := HS3.out.box.cell 0
    simp at d0
    obtain ⟨b0, b1, b2, b3, b4⟩ := vl_cells HS3.out.bv
    obtain ⟨c0, c1, c2, c3, c4⟩ := vl_cells HS3.out.bu
    have HF := Lib.hid (rright_any l A c hc1 (by have := (few_txt KF.out).1; omega) HTX.out _ HS3.out.row)
    cases hf : rgB l with
    | false =>
      rw [hf] at HF
      clear hf
      go_wp2_with fail
      refine HF.out.mono ?_; rintro e wa ⟨rfl, hb⟩
      have HSZ := Lib.hid (HS3.out.later hb)
      clear hb d0 b0 b1 b2 b3 b4 c0 c1 c2 c3 c4 HF HS3
      go_wp2_with fail
      refine (HAW _).mono ?_; rintro e WN ⟨rfl, hb⟩
      have HSY := Lib.hid (HSZ.out.later hb)
      clear hb
      go_wp2
      go_ret
      exact ⟨rfl, HSY.out.bel⟩
    | true =>
      rw [hf] at HF
      have KR := Lib.hid hf
      clear hf
      go_wp2_with fail
      refine HF.out.mono ?_; rintro e w4 ⟨rfl, hb⟩
      have HS4 := Lib.hid (HS3.out.later hb)
      clear hb d0 b0 b1 b2 b3 b4 c0 c1 c2 c3 c4 HF HS3
      have d0 := HS4.out.box.cell 0
      simp at d0
      obtain ⟨b0, b1, b2, b3, b4⟩ := vl_cells HS4.out.bv
      obtain ⟨c0, c1, c2, c3, c4⟩ := vl_cells HS4.out.bu
      have HF := Lib.hid (FV.out _ HS4.out)
      cases hf : fv with
      | false =>
        rw [hf] at HF
        clear hf
        go_wp2_with fail
        refine HF.out.mono ?_; rintro e wa ⟨rfl, hb⟩
        have HSZ := Lib.hid (HS4.out.later hb)
        clear hb d0 b0 b1 b2 b3 b4 c0 c1 c2 c3 c4 HF HS4
        go_wp2_with fail
        refine (HAW _).mono ?_; rintro e WN ⟨rfl, hb⟩
        have HSY := Lib.hid (HSZ.out.later hb)
        clear hb
        go_wp2
        go_ret
        exact ⟨rfl, HSY.out.bel⟩
      | true =>
        rw [hf] at HF
        have KV := Lib.hid hf
        clear hf
        go_wp2_with fail
        refine HF.out.mono ?_; rintro e w5 ⟨rfl, hb⟩
        have HS5 := Lib.hid (HS4.out.later hb)
        clear hb d0 b0 b1 b2 b3 b4 c0 c1 c2 c3 c4 HF HS4
        have d0 := HS5.out.box.cell 0
        simp at d0
        obtain ⟨b0, b1, b2, b3, b4⟩ := vl_cells HS5.out.bv
        obtain ⟨c0, c1, c2, c3, c4⟩ := vl_cells HS5.out.bu
        have HF := Lib.hid (FU.out _ HS5.out)
        cases hf : fu with
        | false =>
          rw [hf] at HF
          clear hf
          go_wp2_with fail
          refine HF.out.mono ?_; rintro e wa ⟨rfl, hb⟩
          have HSZ := Lib.hid (HS5.out.later hb)
          clear hb d0 b0 b1 b2 b3 b4 c0 c1 c2 c3 c4 HF HS5
          go_wp2_with fail
          refine (HAW _).mono ?_; rintro e WN ⟨rfl, hb⟩
          have HSY := Lib.hid (HSZ.out.later hb)
          clear hb
          go_wp2
          go_ret
          exact ⟨rfl, HSY.out.bel⟩
        | true =>
          rw [hf] at HF
          have KU := Lib.hid hf
          clear hf
          go_wp2_with fail
          refine HF.out.mono ?_; rintro e w6 ⟨rfl, hb⟩
          have HS6 := Lib.hid (HS5.out.later hb)
          clear hb d0 b0 b1 b2 b3 b4 c0 c1 c2 c3 c4 HF HS5
          have d0 := HS6.out.box.cell 0
          simp at d0
          obtain ⟨b0, b1, b2, b3, b4⟩ := vl_cells HS6.out.bv
          obtain ⟨c0, c1, c2, c3, c4⟩ := vl_cells HS6.out.bu
          have htl : ∀ n ∈ l, n.text.length ≤ 2000 := (few_txt KF.out).2
          have hsp := few_sp KF.out ((rgB_iff l).1 KR.out).1
          have CW := Lib.hid (fun t B' c' w' h => CW.out t B' c' w' hsp htl h)
          have HCN := Lib.hid (HCN.out KV.out KU.out)
          have hF : Form l := hsp.sm.form
          have hpos := hF.1
          have HTL := Lib.hid htl
          have HFM := Lib.hid hF
          clear htl hsp FV FU HAW
          have C3 := Lib.hid (CW.out ⟨vk, vb, vt, vp, ks⟩ B cv w6 HS6.out.row (by have := HCN.out.1; omega) hcv HS6.out.rv)
          unfold vlC at C3
          simp only at C3
          cases hr : wrD l ⟨vk, vb, vt, vp, ks⟩ with
          | none =>
            rw [hr] at C3
            clear hr
            go_wp2_with fail
            refine C3.out.mono ?_; rintro e w7 ⟨x7, rfl, ⟨sx, rfl, hx7⟩, hb⟩
            have HB7 := Lib.hid (HS6.out.bel.trans (hb.mono HS6.out.bel.size))
            clear hb hx7 C3 HS6 d0 b0 b1 b2 b3 b4 c0 c1 c2 c3 c4
            go_wp2
            go_ret
            exact ⟨rfl, HB7.out⟩
          | some W =>
            rw [hr] at C3
            have HR := Lib.hid hr
            have hkd := only_kind hF (by omega) hr
            simp only at hkd
            have hk1 := hkd.1
            have hk9 := hkd.2.1
            have HKD : Hid (wrD l ⟨1 + vk % 9, vb, vt, vp, ks⟩ = none) := hkd.2.2
            have htxt := only_text hr [120] (by simp)
            have HTT : Hid (wrD l ⟨vk, vb, vt ++ [120], vp, ks⟩ = none) := htxt
            have hhd := wr_head hr
            have HTS : Hid (vt.length ≤ 2000) := by
              unfold headV at hhd
              have h4 := hhd.2.2.2.1
              simp only at h4
              unfold Hid
              rw [h4]
              split
              · exact HTL.out _ (by unfold atN; rw [List.getD_eq_getElem?_getD, List.getElem?_eq_getElem (by omega)]; exact List.getElem_mem _)
              · simp
            have HBY : Hid (vk ≠ 2 → (wrD l ⟨vk, UInt8.ofNat b, vt, vp, ks⟩).isSome = decide (UInt8.ofNat b = vb)) := fun h => only_byte hr h (UInt8.ofNat b)
            have HKS : Hid (vk ≠ 6 → vk ≠ 7 → ∀ s : Vs, s.len = ks.len + 1 → wrD l ⟨vk, vb, vt, vp, s⟩ = none) := fun h6 h7 s hs => only_kids hF (by omega) hr ⟨h6, h7⟩ s hs
            clear hr hkd htxt hhd
            have hrem : Int.tmod vk 9 = vk % 9 := Int.tmod_eq_emod_of_nonneg (by omega)
            have hm0 : 0 ≤ vk % 9 := by omega
            have hm9 : vk % 9 ≤ 8 := by omega
            go_wp2_with fail
            refine C3.out.mono ?_; rintro e w7 ⟨x7, rfl, ⟨sx, rfl, hx7⟩, hb⟩
            have HS7 := Lib.hid (HS6.out.later hb)
            clear hb hx7 C3 HS6 d0 b0 b1 b2 b3 b4 c0 c1 c2 c3 c4
            have d0 := HS7.out.box.cell 0
            simp at d0
            obtain ⟨b0, b1, b2, b3, b4⟩ := vl_cells HS7.out.bv
            obtain ⟨c0, c1, c2, c3, c4⟩ := vl_cells HS7.out.bu
            go_upto_region 7 with (fail)
            have hb8 := (Below.refl w7.heap.size w7).alloc (Nat.le_refl _) (.cells #[.int .i64 vk, .int .u8 ((vb.toNat : Nat) : Int), .string (bs vt), .int .i64 vp, .slice B ks.len cv] 27)
            have HX8 : Hid (Blk (w7.alloc (.cells #[.int .i64 vk, .int .u8 ((vb.toNat : Nat) : Int), .string (bs vt), .int .i64 vp, .slice B ks.len cv] 27)) w7.heap.size #[.int .i64 vk, .int .u8 ((vb.toNat : Nat) : Int), .string (bs vt), .int .i64 vp, .slice B ks.len cv] 27) := Blk.new _ _ _
            have hb9 := hb8.setCell (p := ⟨w7.heap.size, 0, none⟩) (Nat.le_refl _) (.int .i64 (1 + vk % 9))
            have HS8 := Lib.hid (HS7.out.later hb8)
            have HS9 := Lib.hid (HS7.out.later hb9)
            have HX9 : Hid (Blk ((w7.alloc (.cells #[.int .i64 vk, .int .u8 ((vb.toNat : Nat) : Int), .string (bs vt), .int .i64 vp, .slice B ks.len cv] 27)).setCell ⟨w7.heap.size, 0, none⟩ (.int .i64 (1 + vk % 9))) w7.heap.size #[.int .i64 (1 + vk % 9), .int .u8 ((vb.toNat : Nat) : Int), .string (bs vt), .int .i64 vp, .slice B ks.len cv] 27) := HX8.out.setCell 0 (.int .i64 (1 + vk % 9))
            clear hb8 hb9 d0 b0 b1 b2 b3 b4 c0 c1 c2 c3 c4 HS7
            have d0 := HS8.out.box.cell 0
            simp at d0
            obtain ⟨b0, b1, b2, b3, b4⟩ := vl_cells HS8.out.bv
            obtain ⟨c0, c1, c2, c3, c4⟩ := vl_cells HS8.out.bu
            obtain ⟨x0, x1, x2, x3, x4⟩ := vl_cells HX8.out
            have xf := HX8.out.frozen 0
            generalize w7.alloc (.cells #[.int .i64 vk, .int .u8 ((vb.toNat : Nat) : Int), .string (bs vt), .int .i64 vp, .slice B ks.len cv] 27) = wq at *
            generalize w7.heap.size = bq at *
            go_upto_region 8 with (fail)
            generalize wq.setCell ⟨bq, 0, none⟩ (.int .i64 (1 + vk % 9)) = w9 at *
            clear d0 b0 b1 b2 b3 b4 c0 c1 c2 c3 c4 x0 x1 x2 x3 x4 xf HX8 HS8
            have d0 := HS9.out.box.cell 0
            simp at d0
            obtain ⟨b0, b1, b2, b3, b4⟩ := vl_cells HS9.out.bv
            obtain ⟨c0, c1, c2, c3, c4⟩ := vl_cells HS9.out.bu
            have C8 := Lib.hid (CW.out ⟨1 + vk % 9, vb, vt, vp, ks⟩ B cv _ HS9.out.row (by have := HCN.out.1; unfold cntV at *; simp only at *; omega) hcv HS9.out.rv)
            rw [HKD.out] at C8
            unfold vlC at C8
            simp only at C8
            obtain ⟨x0, x1, x2, x3, x4⟩ := vl_cells (k := 1 + vk % 9) HX9.out
            go_wp2_with fail
            refine C8.out.mono ?_; rintro e w10 ⟨x7, rfl, ⟨sx, rfl, hx7⟩, hb⟩
            have HS10 := Lib.hid (HS9.out.later hb)
            clear hb hx7 C8 HS9 HX9 d0 b0 b1 b2 b3 b4 c0 c1 c2 c3 c4
            have d0 := HS10.out.box.cell 0
            simp at d0
            obtain ⟨b0, b1, b2, b3, b4⟩ := vl_cells HS10.out.bv
            obtain ⟨c0, c1, c2, c3, c4⟩ := vl_cells HS10.out.bu
            have hcat : bs vt ++ ({ data := #[120] } : ByteArray) = bs (vt ++ [120]) := (bs_append vt [120])
            have hts := HTS.out
            have hts2 : (bs vt).size ≤ 2000 := by rw [bs_size]; exact hts
            have hq1 : (none : Option Wd).isSome = false := rfl
            go_upto_region 10 with (fail)
            have hb8 := (Below.refl w10.heap.size w10).alloc (Nat.le_refl _) (.cells #[.int .i64 vk, .int .u8 ((vb.toNat : Nat) : Int), .string (bs vt), .int .i64 vp, .slice B ks.len cv] 27)
            have HX8 : Hid (Blk (w10.alloc (.cells #[.int .i64 vk, .int .u8 ((vb.toNat : Nat) : Int), .string (bs vt), .int .i64 vp, .slice B ks.len cv] 27)) w10.heap.size #[.int .i64 vk, .int .u8 ((vb.toNat : Nat) : Int), .string (bs vt), .int .i64 vp, .slice B ks.len cv] 27) := Blk.new _ _ _
            have hb9 := hb8.setCell (p := ⟨w10.heap.size, 2, none⟩) (Nat.le_refl _) (.string (bs (vt ++ [120])))
            have HS8 := Lib.hid (HS10.out.later hb8)
            have HS9 := Lib.hid (HS10.out.later hb9)
            have HX9 : Hid (Blk ((w10.alloc (.cells #[.int .i64 vk, .int .u8 ((vb.toNat : Nat) : Int), .string (bs vt), .int .i64 vp, .slice B ks.len cv] 27)).setCell ⟨w10.heap.size, 2, none⟩ (.string (bs (vt ++ [120])))) w10.heap.size #[.int .i64 vk, .int .u8 ((vb.toNat : Nat) : Int), .string (bs (vt ++ [120])), .int .i64 vp, .slice B ks.len cv] 27) := HX8.out.setCell 2 (.string (bs (vt ++ [120])))
            clear hb8 hb9 d0 b0 b1 b2 b3 b4 c0 c1 c2 c3 c4 HS10
            have d0 := HS8.out.box.cell 0
            simp at d0
            obtain ⟨b0, b1, b2, b3, b4⟩ := vl_cells HS8.out.bv
            obtain ⟨c0, c1, c2, c3, c4⟩ := vl_cells HS8.out.bu
            obtain ⟨x0, x1, x2, x3, x4⟩ := vl_cells HX8.out
            have xf := HX8.out.frozen 2
            generalize w10.alloc (.cells #[.int .i64 vk, .int .u8 ((vb.toNat : Nat) : Int), .string (bs vt), .int .i64 vp, .slice B ks.len cv] 27) = wq at *
            generalize w10.heap.size = bq at *
            go_upto_region 11 with (fail)
            generalize wq.setCell ⟨bq, 2, none⟩ (.string (bs (vt ++ [120]))) = w9 at *
            clear d0 b0 b1 b2 b3 b4 c0 c1 c2 c3 c4 x0 x1 x2 x3 x4 xf HX8 HS8
            have d0 := HS9.out.box.cell 0
            simp at d0
            obtain ⟨b0, b1, b2, b3, b4⟩ := vl_cells HS9.out.bv
            obtain ⟨c0, c1, c2, c3, c4⟩ := vl_cells HS9.out.bu
            have C8 := Lib.hid (CW.out ⟨vk, vb, vt ++ [120], vp, ks⟩ B cv _ HS9.out.row (by have := HCN.out.1; unfold cntV at *; simp only at *; omega) hcv HS9.out.rv)
            rw [HTT.out] at C8
            unfold vlC at C8
            simp only at C8
            obtain ⟨x0, x1, x2, x3, x4⟩ := vl_cells (t := vt ++ [120]) HX9.out
            clear hcat hts2
            go_wp2_with fail
            refine C8.out.mono ?_; rintro e w13 ⟨x7, rfl, ⟨sx, rfl, hx7⟩, hb⟩
            have HS13 := Lib.hid (HS9.out.later hb)
            clear hb hx7 C8 HS9 HX9 d0 b0 b1 b2 b3 b4 c0 c1 c2 c3 c4
            have d0 := HS13.out.box.cell 0
            simp at d0
            obtain ⟨b0, b1, b2, b3, b4⟩ := vl_cells HS13.out.bv
            obtain ⟨c0, c1, c2, c3, c4⟩ := vl_cells HS13.out.bu
            go_upto_region 13 with (fail)
            have hb8 := (Below.refl w13.heap.size w13).alloc (Nat.le_refl _) (.cells #[.int .i64 vk, .int .u8 ((vb.toNat : Nat) : Int), .string (bs vt), .int .i64 vp, .slice B ks.len cv] 27)
            have HX8 : Hid (Blk (w13.alloc (.cells #[.int .i64 vk, .int .u8 ((vb.toNat : Nat) : Int), .string (bs vt), .int .i64 vp, .slice B ks.len cv] 27)) w13.heap.size #[.int .i64 vk, .int .u8 ((vb.toNat : Nat) : Int), .string (bs vt), .int .i64 vp, .slice B ks.len cv] 27) := Blk.new _ _ _
            have hb9 := hb8.setCell (p := ⟨w13.heap.size, 1, none⟩) (Nat.le_refl _) (.int .u8 (b : Int))
            have HS8 := Lib.hid (HS13.out.later hb8)
            have HS9 := Lib.hid (HS13.out.later hb9)
            have HX9 : Hid (Blk ((w13.alloc (.cells #[.int .i64 vk, .int .u8 ((vb.toNat : Nat) : Int), .string (bs vt), .int .i64 vp, .slice B ks.len cv] 27)).setCell ⟨w13.heap.size, 1, none⟩ (.int .u8 (b : Int))) w13.heap.size #[.int .i64 vk, .int .u8 (b : Int), .string (bs vt), .int .i64 vp, .slice B ks.len cv] 27) := HX8.out.setCell 1 (.int .u8 (b : Int))
            clear hb8 hb9 d0 b0 b1 b2 b3 b4 c0 c1 c2 c3 c4 HS13
            have d0 := HS8.out.box.cell 0
            simp at d0
            obtain ⟨b0, b1, b2, b3, b4⟩ := vl_cells HS8.out.bv
            obtain ⟨c0, c1, c2, c3, c4⟩ := vl_cells HS8.out.bu
            obtain ⟨x0, x1, x2, x3, x4⟩ := vl_cells HX8.out
            have xf := HX8.out.frozen 1
            generalize w13.alloc (.cells #[.int .i64 vk, .int .u8 ((vb.toNat : Nat) : Int), .string (bs vt), .int .i64 vp, .slice B ks.len cv] 27) = wq at *
            generalize w13.heap.size = bq at *
            go_upto_region 14 with (fail)
            generalize wq.setCell ⟨bq, 1, none⟩ (.int .u8 (b : Int)) = w9 at *
            clear d0 b0 b1 b2 b3 b4 c0 c1 c2 c3 c4 x0 x1 x2 x3 x4 xf HX8 HS8
            have d0 := HS9.out.box.cell 0
            simp at d0
            obtain ⟨b0, b1, b2, b3, b4⟩ := vl_cells HS9.out.bv
            obtain ⟨c0, c1, c2, c3, c4⟩ := vl_cells HS9.out.bu
            have C8 := Lib.hid (CW.out ⟨vk, UInt8.ofNat b, vt, vp, ks⟩ B cv _ HS9.out.row (by have := HCN.out.1; unfold cntV at *; simp only at *; omega) hcv HS9.out.rv)
            have hbn : (UInt8.ofNat b).toNat = b := by simp; omega
            have HBN : Hid (decide (UInt8.ofNat b = vb) = decide (b = vb.toNat)) := by
              unfold Hid
              by_cases e : b = vb.toNat
              · rw [decide_eq_true e, decide_eq_true (by rw [e]; simp)]
              · rw [decide_eq_false e, decide_eq_false (fun h => e (by rw [← h, hbn]))]
            rw [HBN.out] at HBY
            unfold vlC at C8
            simp only [hbn] at C8
            generalize wrD l ⟨vk, UInt8.ofNat b, vt, vp, ks⟩ = rb at *
            obtain ⟨x0, x1, x2, x3, x4⟩ := five_cells HX9.out
            clear hbn HBN
            go_wp2_with fail
            refine C8.out.mono ?_; rintro e w16 ⟨x7, rfl, ⟨sx, rfl, hx7⟩, hb⟩
            have HS16 := Lib.hid (HS9.out.later hb)
            clear hb hx7 C8 HS9 HX9 d0 b0 b1 b2 b3 b4 c0 c1 c2 c3 c4
            have d0 := HS16.out.box.cell 0
            simp at d0
            obtain ⟨b0, b1, b2, b3, b4⟩ := vl_cells HS16.out.bv
            obtain ⟨c0, c1, c2, c3, c4⟩ := vl_cells HS16.out.bu
            generalize rb.isSome = zb at *
            go_upto_region 16 with (fail)
            have hb17 := (Below.refl w16.heap.size w16).alloc (Nat.le_refl _) (.cells #[.int .i64 vk, .int .u8 ((vb.toNat : Nat) : Int), .string (bs vt), .int .i64 vp, .slice B ks.len cv] 27)
            have HX17 : Hid (Blk (w16.alloc (.cells #[.int .i64 vk, .int .u8 ((vb.toNat : Nat) : Int), .string (bs vt), .int .i64 vp, .slice B ks.len cv] 27)) w16.heap.size #[.int .i64 vk, .int .u8 ((vb.toNat : Nat) : Int), .string (bs vt), .int .i64 vp, .slice B ks.len cv] 27) := Blk.new _ _ _
            have HS17 := Lib.hid (HS16.out.later hb17)
            have HB17 := Lib.hid hb17
            clear hb17 d0 b0 b1 b2 b3 b4 c0 c1 c2 c3 c4
            generalize w16.alloc (.cells #[.int .i64 vk, .int .u8 ((vb.toNat : Nat) : Int), .string (bs vt), .int .i64 vp, .slice B ks.len cv] 27) = ws at *
            obtain ⟨K, hKl, hKv, hKr, hKk⟩ := VRow.toC HS16.out.rv
            obtain ⟨b20, hb20⟩ : ∃ x, x = w16.heap.size := ⟨_, rfl⟩
            rw [← hb20] at HX17 ⊢
            have HB20 := Lib.hid hb20
            clear hb20
            obtain ⟨M, hM⟩ : ∃ M : VCl, M = ⟨⟨uk, ub, ut, up, us⟩, D, cu⟩ := ⟨_, rfl⟩
            obtain ⟨L, hL⟩ : ∃ L, L = K ++ [M] := ⟨_, rfl⟩
            obtain ⟨mc, hmc⟩ : ∃ mc, mc = M.cells := ⟨_, rfl⟩
            obtain ⟨H, hH⟩ : ∃ H, H = ws.heap.size := ⟨_, rfl⟩
            have hmc2 : mc = #[.int .i64 uk, .int .u8 ((ub.toNat : Nat) : Int), .string (bs ut), .int .i64 up, .slice D us.len cu] := by rw [hmc, hM]; rfl
            have HMC := Lib.hid hmc
            have HMC2 := Lib.hid hmc2
            have HMS : Hid (mc.size = 5) := by unfold Hid; rw [hmc2]; rfl
            have HLL := Lib.hid hL
            have HH := Lib.hid hH
            have HM := Lib.hid hM
            have HKL := Lib.hid hKl
            have HKV := Lib.hid hKv
            have HKR := Lib.hid hKr
            have HKK := Lib.hid hKk
            have HKN : Hid (B = none → K = [] ∧ cv = 0) := fun e => ⟨List.length_eq_zero_iff.1 (by have := HNL.out e; simp only at hKl; omega), HNL.out e⟩
            have hKb : K.length ≤ 1000 := by
              have h1 := cntVs_len ks
              have h2 := HCN.out.1
              unfold cntV at h2
              simp only at h2 hKl
              omega
            have HKB := Lib.hid hKb
            have HP : Hid (K <+: L) := ⟨[M], hL.symm⟩
            clear hKl hKv hKr hKk hmc hmc2 hL hM hKb
            have HR : Hid (∀ w w' : World, Below w.heap.size w w' → VwR H L mc w w') := fun w w' h => VwR.of w w' h
            have HZ0 : Hid (VoS H ws ws) := ⟨by rw [hH]; exact Nat.le_refl _, by rw [hH]; exact Below.refl _ _⟩
            clear hH
            refine G.wp_region_stable_last (R := (VwR H L mc)) HR.out (S := (VoS H ws)) (hSt := fun _ _ h hr => h.grow hr) (plan := [[], [(5, none)], [(88, some 1)], [(87, some 0), (89, some 2)], [(6, none)], [(91, some 4)], [(90, some 3), (92, some 5)], [(20, none)]]) rfl (by kernel_rfl) (by kernel_rfl) (by kernel_rfl) (by kernel_rfl) ?hS ?_
            rotate_left
            simp only [List.dropLast]
            (refine G.chain_rel (VpE H) (VpE.grow H L mc) (by rfl) ?_ ?_
             · intro act wx hS hr
               simp at hr
               have hbw : Below ws.heap.size ws wx := by rw [← HH.out]; exact hS.bel
               obtain ⟨b0, b1, b2, b3, b4⟩ := vl_cells (HS17.out.later hbw).bv
               obtain ⟨c0, c1, c2, c3, c4⟩ := vl_cells (HS17.out.later hbw).bu
               all_goals go_simp
               exact G.Done.rel (HR.out _ _ ((Below.refl _ _).alloc (Nat.le_refl _) _)) ⟨Nat.le_trans hS.lo (by simp), ⟨_, rfl⟩, OwnVs.empty (Blk.new _ _ _) hS.lo⟩
            )
            iterate 2 first
              | (refine G.chain_skip (by rfl) (by rfl) ?_)
              | (apply G.chain_want (by rfl)
                 · intro act wx hS hr
                   simp at hr
                   have hbw : Below ws.heap.size ws wx := by rw [← HH.out]; exact hS.bel
                   obtain ⟨b0, b1, b2, b3, b4⟩ := vl_cells (HS17.out.later hbw).bv
                   obtain ⟨c0, c1, c2, c3, c4⟩ := vl_cells (HS17.out.later hbw).bu
                   go_simp
                   (try go_ints)
                   first
                     | exact G.Done.same HR.out
                )
            (refine G.chain_rel (VpK H K) (VpK.grow H K L mc HP.out) (by rfl) ?_ ?_
             · intro act wx hS hr
               simp at hr
               have hbw : Below ws.heap.size ws wx := by rw [← HH.out]; exact hS.bel
               obtain ⟨b0, b1, b2, b3, b4⟩ := vl_cells (HS17.out.later hbw).bv
               obtain ⟨c0, c1, c2, c3, c4⟩ := vl_cells (HS17.out.later hbw).bu
               obtain ⟨⟨v0, hr1, hlo, ⟨g, rfl⟩, ho⟩, hr2⟩ := hr
               refine wp_append_vk (.tmp 87) (.tmp 89) rfl H (.slice (some ⟨g, 0, none⟩) 0 0) [] (by simp [Act.eval, hr1]) ho B cv K (by rw [HKL.out]; simp [Act.eval, hr2]) ((HKR.out.later HB17.out).later hbw) HKN.out (by have := HKB.out; simp only [List.length_nil]; omega) hlo L (.inr ⟨g, rfl⟩) mc HMS.out (.inr ⟨g, rfl⟩) ?_
               intro v' w' q1 q2 q3
               rw [List.nil_append] at q1
               exact G.Done.rel q3 ⟨Nat.le_trans hlo (q3.out hlo).1.size, fun e => ⟨g, q2 e⟩, q1⟩
               all_goals go_simp
            )
            iterate 1 first
              | (refine G.chain_skip (by rfl) (by rfl) ?_)
              | (apply G.chain_want (by rfl)
                 · intro act wx hS hr
                   simp at hr
                   have hbw : Below ws.heap.size ws wx := by rw [← HH.out]; exact hS.bel
                   obtain ⟨b0, b1, b2, b3, b4⟩ := vl_cells (HS17.out.later hbw).bv
                   obtain ⟨c0, c1, c2, c3, c4⟩ := vl_cells (HS17.out.later hbw).bu
                   go_simp
                   (try go_ints)
                   first
                     | exact G.Done.same HR.out
                )
            (refine G.chain_rel (VpM H mc) (VpM.grow H L mc) (by rfl) ?_ ?_
             · intro act wx hS hr
               simp at hr
               have hbw : Below ws.heap.size ws wx := by rw [← HH.out]; exact hS.bel
               obtain ⟨b0, b1, b2, b3, b4⟩ := vl_cells (HS17.out.later hbw).bv
               obtain ⟨c0, c1, c2, c3, c4⟩ := vl_cells (HS17.out.later hbw).bu
               all_goals go_simp
               exact G.Done.rel (HR.out _ _ ((Below.refl _ _).alloc (Nat.le_refl _) _)) ⟨Nat.le_trans hS.lo (by simp), _, rfl, by rw [HMC2.out]; exact Blk.new _ _ _⟩
            )
            (refine G.chain_rel (VpK H L) (VpK.grow H L L mc (List.prefix_refl L)) (by rfl) ?_ ?_
             · intro act wx hS hr
               simp at hr
               have hbw : Below ws.heap.size ws wx := by rw [← HH.out]; exact hS.bel
               obtain ⟨b0, b1, b2, b3, b4⟩ := vl_cells (HS17.out.later hbw).bv
               obtain ⟨c0, c1, c2, c3, c4⟩ := vl_cells (HS17.out.later hbw).bu
               obtain ⟨⟨v0, hr1, hlo, hk0, ho⟩, v5, hr2, hlo5, g5, rfl, hb5⟩ := hr
               have hbig : 2 ≤ K.length + [M].length ∨ ∃ g, v0 = .slice (some ⟨g, 0, none⟩) 0 0 := by
                 by_cases e : K = []
                 · exact .inr (hk0 e)
                 · have := List.length_pos_iff.2 e
                   left; simp only [List.length_cons, List.length_nil]; omega
               refine wp_append_vk (.tmp 90) (.tmp 92) rfl H v0 K (by simp [Act.eval, hr1]) ho (some ⟨g5, 0, none⟩) 1 [M] (by simp [Act.eval, hr2]) (clrow_one (by rw [← HMC.out]; exact hb5)) (fun e => by cases e) (by have := HKB.out; simp only [List.length_cons, List.length_nil]; omega) hlo L (.inl HLL.out) mc HMS.out hbig ?_
               intro v' w' q1 _ q3
               exact G.Done.rel q3 ⟨Nat.le_trans hlo (q3.out hlo).1.size, fun e => absurd e (by rw [HLL.out]; simp), by rw [HLL.out]; exact q1⟩
               all_goals go_simp
            )
            iterate 1 first
              | (refine G.chain_skip (by rfl) (by rfl) ?_)
              | (apply G.chain_want (by rfl)
                 · intro act wx hS hr
                   simp at hr
                   have hbw : Below ws.heap.size ws wx := by rw [← HH.out]; exact hS.bel
                   obtain ⟨b0, b1, b2, b3, b4⟩ := vl_cells (HS17.out.later hbw).bv
                   obtain ⟨c0, c1, c2, c3, c4⟩ := vl_cells (HS17.out.later hbw).bu
                   go_simp
                   (try go_ints)
                   first
                     | exact G.Done.same HR.out
                )
            show ∀ w', _ → _
            intro wz hz
            simp [Act.put]
            case hS => exact HZ0.out
            intro y0 _ y3 _ y5 _ y6 hy6
            obtain ⟨-, -, ho6⟩ := hy6
            have hbz : Below ws.heap.size ws wz := by rw [← HH.out]; exact hz.bel
            have HXZ := Lib.hid (HX17.out.later hbz)
            obtain ⟨x0, x1, x2, x3, x4⟩ := vl_cells HXZ.out
            have xf := HXZ.out.frozen 4
            obtain ⟨A6, c6, hy6v, hc6, -⟩ := ho6.row
            have hwf : Below w16.heap.size w16 (wz.setCell ⟨b20, 4, none⟩ (.slice A6 L.length c6)) := (HB17.out.trans (hbz.mono HB17.out.size)).setCell (p := ⟨b20, 4, none⟩) (by rw [HB20.out]; exact Nat.le_refl _) _
            have HWF := Lib.hid hwf
            have HSF := Lib.hid (HS16.out.later hwf)
            have hof : OwnVs (wz.setCell ⟨b20, 4, none⟩ (.slice A6 L.length c6)) H y6 L := ownsRow_setCell_below ho6 (a := ⟨b20, 4, none⟩) (by show b20 < H; rw [HH.out]; exact HX17.out.lt) _
            obtain ⟨A7, c7, hy7, -, hrf⟩ := hof.row
            have hA : A7 = A6 ∧ c7 = c6 := by rw [hy6v] at hy7; simp only [Value.slice.injEq, true_and] at hy7; exact ⟨hy7.1.symm, hy7.2.symm⟩
            obtain ⟨rfl, rfl⟩ := hA
            have hck : CKids (wz.setCell ⟨b20, 4, none⟩ (.slice A7 L.length c7)) L := by
              have key : ∀ L', L' = K ++ [M] → CKids (wz.setCell ⟨b20, 4, none⟩ (.slice A7 L.length c7)) L' := fun L' e => by
                rw [e]
                refine (HKK.out.later hwf).append (fun x hx => ?_)
                rw [List.mem_singleton.1 hx, HM.out]
                exact ⟨HCU.out, HSF.out.ru⟩
              exact key L HLL.out
            have HVR := Lib.hid (hrf.toV hck)
            have hsl : (Vs.of (L.map (·.v))).list = ks.list ++ [⟨uk, ub, ut, up, us⟩] := by rw [Vs.list_of, HLL.out, List.map_append, HKV.out, HM.out]; rfl
            have HLN : Hid (L.length = ks.len + 1) := by unfold Hid; rw [HLL.out, List.length_append, HKL.out]; rfl
            have HVL : Hid ((Vs.of (L.map (·.v))).len = ks.len + 1) := by unfold Hid Vs.len; rw [hsl, List.length_append]; rfl
            have HCC : Hid (cntV ⟨vk, vb, vt, vp, Vs.of (L.map (·.v))⟩ ≤ 1000) := by
              unfold Hid
              have h0 : cntVs (Vs.of (L.map (·.v))) = cntVs ks + cntV ⟨uk, ub, ut, up, us⟩ := by rw [cntVs_list, hsl, List.map_append, List.sum_append, ← cntVs_list]; simp
              have h1 := HCN.out
              unfold cntV at *
              simp only at *
              omega
            have HXF : Hid (Blk (wz.setCell ⟨b20, 4, none⟩ (.slice A7 L.length c7)) b20 #[.int .i64 vk, .int .u8 ((vb.toNat : Nat) : Int), .string (bs vt), .int .i64 vp, .slice A7 L.length c7] 27) := HXZ.out.setCell 4 _
            have C8 := Lib.hid (CW.out ⟨vk, vb, vt, vp, Vs.of (L.map (·.v))⟩ A7 c7 _ HSF.out.row HCC.out (by rw [HVL.out, ← HLN.out]; exact hc6) HVR.out)
            have HKS2 := Lib.hid (fun h6 h7 => HKS.out h6 h7 _ HVL.out)
            unfold vlC at C8
            simp only at C8
            rw [HVL.out, ← HLN.out] at C8
            generalize wrD l ⟨vk, vb, vt, vp, Vs.of (L.map (·.v))⟩ = rk at *
            subst hy6v
            clear hz ho6 hof hy7 hrf hck hsl hwf hbz HKS HKK HKR HKV HKL HCC HVR HR HZ0 HX17 HXZ HS17
            go_upto_region 17 with (fail)
            generalize wz.setCell ⟨b20, 4, none⟩ (.slice A7 L.length c7) = wf at *
            clear x0 x1 x2 x3 x4 xf
            have d0 := HSF.out.box.cell 0
            simp at d0
            obtain ⟨b0, b1, b2, b3, b4⟩ := vl_cells HSF.out.bv
            obtain ⟨c0, c1, c2, c3, c4⟩ := vl_cells HSF.out.bu
            obtain ⟨x0, x1, x2, x3, x4⟩ := five_cells HXF.out
            go_wp2_with fail
            refine C8.out.mono ?_; rintro e w18 ⟨x7, rfl, ⟨sx7, rfl, hx7⟩, hb⟩
            have HS18 := Lib.hid (HSF.out.later hb)
            clear hb hx7 C8 HSF HXF d0 b0 b1 b2 b3 b4 c0 c1 c2 c3 c4 x0 x1 x2 x3 x4
            have d0 := HS18.out.box.cell 0
            simp at d0
            obtain ⟨b0, b1, b2, b3, b4⟩ := vl_cells HS18.out.bv
            obtain ⟨c0, c1, c2, c3, c4⟩ := vl_cells HS18.out.bu
            by_cases k2 : vk = 2
            · have z2 : (vk != 2) = false := by simp [k2]
              have z6 : (vk == 6) = false := by rw [beq_eq_false_iff_ne]; omega
              have z7 : (vk == 7) = false := by rw [beq_eq_false_iff_ne]; omega
              have hk := HKS2.out (by omega) (by omega)
              subst hk
              clear k2 hrem hm0 hm9 hk1 hk9
              go_wp2
              go_ret
              exact ⟨rfl, HS18.out.bel⟩
            · have z2 : (vk != 2) = true := by simp [k2]
              have hz := HBY.out k2
              have ze : (((b : Int)) == ((vb.toNat : Nat) : Int)) = zb := by
                rw [hz]
                by_cases e : b = vb.toNat
                · rw [decide_eq_true e, e]; simp
                · rw [decide_eq_false e, beq_eq_false_iff_ne]; omega
              have zn : (zb != zb) = false := by simp
              clear hz HBY
              by_cases k6 : vk = 6
              · have z6 : (vk == 6) = true := by simp [k6]
                generalize rk.isSome = zk at *
                clear k2 k6 hrem hm0 hm9 hk1 hk9
                go_wp2
                go_ret
                exact ⟨rfl, HS18.out.bel⟩
              · have z6 : (vk == 6) = false := by rw [beq_eq_false_iff_ne]; exact k6
                by_cases k7 : vk = 7
                · have z7 : (vk == 7) = true := by simp [k7]
                  generalize rk.isSome = zk at *
                  clear k2 k6 k7 hrem hm0 hm9 hk1 hk9
                  go_wp2
                  go_ret
                  exact ⟨rfl, HS18.out.bel⟩
                · have z7 : (vk == 7) = false := by rw [beq_eq_false_iff_ne]; exact k7
                  have hk := HKS2.out k6 k7
                  subst hk
                  clear k2 k6 k7 hrem hm0 hm9 hk1 hk9
                  go_wp2
                  go_ret
                  exact ⟨rfl, HS18.out.bel⟩
end Go.Proofs.Ytgdlbahfmddkaaa
