/- Bounds of pairs: walked. -/
import Derived.Test.YtpbbokdmoaadfaaM03
import Derived.Test.YtpbbokdmoaadfaaM14
import Derived.Test.YtpbbokdmoaadfaaM09
import Derived.Test.YtpbbokdmoaadfaaM08
import Derived.Test.YtpbbokdmoaadfaaRows
namespace Go.Proofs.Ytpbbokdmoaadfaa
set_option maxHeartbeats 64000000
set_option maxRecDepth 1000000
set_option linter.all false
open Go Go.RowKit
structure Sm (l : List Nd) : Prop where
 form : Form l
 len : l.length <= 4096
 txt : Txt l
theorem Form.at_ {l : List Nd} (h : Form l) {n : Nd} (hn : n ∈ l) : ∃ i, i < l.length /\ atN l i = n := by
 obtain ⟨i, hi, rfl⟩ := List.mem_iff_getElem.1 hn
 exact ⟨i, hi, by unfold atN; rw [List.getD_eq_getElem?_getD, List.getElem?_eq_getElem hi]; rfl⟩
theorem Sm.mv {l : List Nd} (h : Sm l) {d : Int} (h1 : -1073741824 <= d) (h2 : d <= 1073741824) : ∀ n ∈ l, MvOk d n /\ n.kind <= 9 := fun n hn => by
 have hl := h.len
 obtain ⟨i, hi, rfl⟩ := h.form.at_ hn
 exact ⟨(h.form.2.1 i hi).mvOk (by omega) (txt_at h.txt i) h1 h2, (h.form.2.1 i hi).kind9⟩
theorem Txt.snoc {l : List Nd} (h : Txt l) {n : Nd} (hn : n.text = []) : Txt (l ++ [n]) := fun m hm => by
 rcases List.mem_append.1 hm with h1 | h1
 ·exact h m h1
 ·rw [List.mem_singleton.1 h1, hn]; simp
theorem Txt.mv {l : List Nd} (h : Txt l) (d : Int) : Txt (l.map (mvN d)) := fun m hm => by
 obtain ⟨n, hn, rfl⟩ := List.mem_map.1 hm
 have e : (mvN d n).text = n.text := by unfold mvN; (repeat' split) <;> rfl
 rw [e]; exact h n hn
theorem Sm.wrap {l : List Nd} (h : Sm l) (hl : l.length <= 999) {kind : Int} (hk : kind = 6 \/ kind = 8 \/ kind = 9) : Sm (wrapL kind 0 0 l) :=
 ⟨wrap_form h.form hk ⟨rfl, rfl⟩, by unfold wrapL; rw [List.length_append]; simp; omega, by unfold wrapL; exact h.txt.snoc rfl⟩
theorem Sm.pair {l m : List Nd} (h : Sm l) (k : Sm m) (hl : l.length + m.length <= 999) {kind : Int} (hk : kind = 4 \/ kind = 5) : Sm (pairL kind l m) :=
 ⟨pair_form h.form k.form hk, by unfold pairL; rw [List.length_append, List.length_append, List.length_map]; simp; omega, by
  unfold pairL
  refine Txt.snoc (fun n hn => ?_) rfl
  rcases List.mem_append.1 hn with h1 | h1
  ·exact h.txt n h1
  ·exact k.txt.mv _ n h1⟩
theorem IsD.rwrap {l : List Nd} {v : Value} {w : World} (h : IsD l v w) (hs : Sm l) (kind lo hi : Int) : Calls Try.prog 21 #[.int .i64 kind, .int .i64 lo, .int .i64 hi, v] w (DPost w (wrapL kind lo hi l)) := by
 obtain ⟨A, c, hc, rfl, hr⟩ := h
 exact rwrap_any kind lo hi l A c hs.form.1 (by have := hs.len; omega) (hs.mv (by omega) (by omega)) w hr
theorem IsD.rpair {l m : List Nd} {u v : Value} {w : World} (h : IsD l u w) (k : IsD m v w) (hs : Sm l) (ks : Sm m) (kind : Int) : Calls Try.prog 20 #[.int .i64 kind, u, v] w (DPost w (pairL kind l m)) := by
 obtain ⟨A, c, hc, rfl, hr⟩ := h
 obtain ⟨B, d, hd, rfl, hq⟩ := k
 have h1 := hs.len
 have h2 := ks.len
 exact rpairs_any kind l m A B c d hs.form.1 ks.form.1 (by omega) (by omega) (hs.mv (by omega) (by omega)) (ks.mv (by omega) (by omega)) w hr hq
def vlC (v : Vl) (B : Option Addr) (c : Nat) : Array Value := #[.int .i64 v.kind, .int .u8 ((v.byte.toNat : Nat) : Int), .string (bs v.text), .int .i64 v.pick, .slice B v.kids.len c]
def VRow (w : World) : Option Addr -> Nat -> Vs -> Prop
 | _, _, .nil => True
 | A, i, .cons k b t p ks r => (∃ g o, A = some ⟨g, o, none⟩ /\ g < w.heap.size /\ ∃ B c, ks.len <= c /\ (∀ j, j < 5 -> w.cell? ⟨g, o + i * 5 + j, none⟩ = (vlC ⟨k, b, t, p, ks⟩ B c)[j]?) /\ VRow w B 0 ks) /\ VRow w A (i + 1) r
theorem VRow.later {w w' : World} (hb : Below w.heap.size w w') : ∀ {s : Vs} {A : Option Addr} {i : Nat}, VRow w A i s -> VRow w' A i s
 | .nil, A, i, h => trivial
 | .cons k b t p ks r, A, i, h => by
  obtain ⟨⟨g, o, h1, h2, B, c, h3, h4, h5⟩, h6⟩ := h
  exact ⟨⟨g, o, h1, Nat.lt_of_lt_of_le h2 hb.size, B, c, h3, fun j hj => (hb.cell (p := ⟨g, o + i * 5 + j, none⟩) h2).trans (h4 j hj), VRow.later hb h5⟩, VRow.later hb h6⟩
def VAt (w : World) (g o : Nat) (v : Vl) : Prop := ∃ B c, v.kids.len <= c /\ (∀ j, j < 5 -> w.cell? ⟨g, o + j, none⟩ = (vlC v B c)[j]?) /\ VRow w B 0 v.kids
theorem Vs.len_cons (k : Int) (b : UInt8) (t : List UInt8) (p : Int) (ks r : Vs) : (Vs.cons k b t p ks r).len = r.len + 1 := rfl
theorem VRow.at_ {w : World} : ∀ {s : Vs} {A : Option Addr} {i j : Nat}, VRow w A i s -> j < s.len -> ∃ g o, A = some ⟨g, o, none⟩ /\ g < w.heap.size /\ VAt w g (o + (i + j) * 5) (s.at j)
 | .nil, A, i, j, h, hj => absurd hj (Nat.not_lt_zero j)
 | .cons k b t p ks r, A, i, 0, h, hj => by
  obtain ⟨⟨g, o, h1, h2, B, c, h3, h4, h5⟩, h6⟩ := h
  exact ⟨g, o, h1, h2, B, c, h3, h4, h5⟩
 | .cons k b t p ks r, A, i, j + 1, h, hj => by
  obtain ⟨g, o, h1, h2, h3⟩ := VRow.at_ h.2 (j := j) (by rw [Vs.len_cons] at hj; omega)
  exact ⟨g, o, h1, h2, by rw [show i + (j + 1) = i + 1 + j by omega]; exact h3⟩
theorem VRow.of {w : World} {g o : Nat} (hg : g < w.heap.size) : ∀ {s : Vs} {i : Nat}, (∀ j, j < s.len -> VAt w g (o + (i + j) * 5) (s.at j)) -> VRow w (some ⟨g, o, none⟩) i s
 | .nil, i, h => trivial
 | .cons k b t p ks r, i, h => by
  obtain ⟨B, c, h3, h4, h5⟩ := h 0 (by rw [Vs.len_cons]; omega)
  exact ⟨⟨g, o, rfl, hg, B, c, h3, h4, h5⟩, VRow.of hg (fun j hj => by
   have := h (j + 1) (by rw [Vs.len_cons]; omega)
   rw [show i + 1 + j = i + (j + 1) by omega]; exact this)⟩
def IsV (w : World) (u : Value) (v : Vl) : Prop := ∃ B c, v.kids.len <= c /\ u = .agg (vlC v B c) /\ VRow w B 0 v.kids
theorem VAt.five {w : World} {g o : Nat} {v : Vl} (h : VAt w g o v) : ∃ B c, v.kids.len <= c /\ w.cell? ⟨g, o, none⟩ = some (.int .i64 v.kind) /\ w.cell? ⟨g, o + 1, none⟩ = some (.int .u8 ((v.byte.toNat : Nat) : Int)) /\ w.cell? ⟨g, o + 2, none⟩ = some (.string (bs v.text)) /\ w.cell? ⟨g, o + 3, none⟩ = some (.int .i64 v.pick) /\ w.cell? ⟨g, o + 4, none⟩ = some (.slice B v.kids.len c) /\ VRow w B 0 v.kids := by
 obtain ⟨B, c, h1, h2, h3⟩ := h
 exact ⟨B, c, h1, h2 0 (by decide), h2 1 (by decide), h2 2 (by decide), h2 3 (by decide), h2 4 (by decide), h3⟩
end Go.Proofs.Ytpbbokdmoaadfaa
namespace Go.Proofs.Ytpbbokdmoaadfaa
set_option maxHeartbeats 64000000
set_option maxRecDepth 1000000
set_option linter.all false
open Go Go.RowKit Go.ChangeShapes Go.WideShapes Go.ChangeAt Go.Joins
theorem cellsVal : Try.prog.cellsOf 32 = 5 := by kernel_rfl
theorem cellsVals : Try.prog.cellsOf 30 = 1 := by kernel_rfl
theorem cellsU8v : Try.prog.cellsOf 5 = 1 := by kernel_rfl
theorem bulk_part {H : Type} {d : DataW H} : ∀ {l : List (DataW H)}, d ∈ l -> Rows.uptoBulk d <= Rows.uptoBulkAll l
 | x :: r, h => by
  rw [Rows.uptoBulkAll]
  rcases List.mem_cons.1 h with rfl | h
  ·exact Nat.le_add_right _ _
  ·exact Nat.le_trans (bulk_part h) (Nat.le_add_left _ _)
theorem bulk_sum {H : Type} {D : Nat -> DataW H} {f : Nat -> Vl} : ∀ (l : List Nat), (∀ i ∈ l, cntV (f i) <= Rows.uptoBulk (D i)) -> ((l.map f).map cntV).sum <= Rows.uptoBulkAll (l.map D)
 | [], _ => by simp [Rows.uptoBulkAll]
 | i :: l, h => by
  have h1 := h i (by simp)
  have h2 := bulk_sum l (fun j hj => h j (List.mem_cons_of_mem _ hj))
  simp only [List.map_cons, List.sum_cons, Rows.uptoBulkAll]
  omega
section
variable {H : Type} {enc : TypeId × Value -> H} {W : World} {base : Nat} {v : Value} {d : DataW H} {p : List MemPlace}
structure ValW (W : World) (cs : List Value) (v : Vl) (B : Option Addr) (c s : Nat) : Prop where
 cap : v.kids.len <= c
 nilc : B = none -> c = 0
 cells : ∀ j, j < 5 -> cs[j]? = (vlC v B c)[j]?
 row : VRow W B 0 v.kids
 cnt : cntV v <= s
 txt : v.text.length <= s
theorem val_words : ∀ (s n : Nat) (cs : List Value) (x : DataW H × List MemPlace), Rows.uptoBulk x.1 = s -> cs.length = 5 -> DataW.trod enc Try.prog W 0 (fun _ => true) true n 32 cs = some x -> ∃ (v : Vl) (B : Option Addr) (c : Nat), ValW W cs v B c s := fun s => by
 induction s using Nat.strongRecOn with
 | ind s ih =>
  intro n cs x hs hlen h
  obtain ⟨xs, m, _, rfl, _, hn, hel⟩ := DataW.trod_struct Try.underlying32 h
  match cs, hlen with
  | [c0, c1, c2, c3, c4], _ =>
   match xs, hn with
   | [y0, y1, y2, y3, y4], _ =>
    have e0 : DataW.trod enc Try.prog W 0 (fun _ => true) true m 3 [c0] = some y0 := by have h := hel 0 _ rfl; simp [cellsI] at h; exact h
    have e1 : DataW.trod enc Try.prog W 0 (fun _ => true) true m 5 [c1] = some y1 := by have h := hel 1 _ rfl; simp [cellsU8v] at h; exact h
    have e2 : DataW.trod enc Try.prog W 0 (fun _ => true) true m 9 [c2] = some y2 := by have h := hel 2 _ rfl; simp [cellsS] at h; exact h
    have e3 : DataW.trod enc Try.prog W 0 (fun _ => true) true m 3 [c3] = some y3 := by have h := hel 3 _ rfl; simp [cellsI] at h; exact h
    have e4 : DataW.trod enc Try.prog W 0 (fun _ => true) true m 30 [c4] = some y4 := by have h := hel 4 _ rfl; simp [cellsVals] at h; exact h
    obtain ⟨a0, h0, _, _⟩ := DataW.trod_int Try.underlying3 e0
    obtain ⟨a1, h1, _, wf1⟩ := DataW.trod_int Try.underlying5 e1
    obtain ⟨t, h2, hy2, _⟩ := DataW.trod_string Try.underlying9 e2
    obtain ⟨a3, h3, _, _⟩ := DataW.trod_int Try.underlying3 e3
    simp at h0 h1 h2 h3
    subst h0 h1 h2 h3
    obtain ⟨b, rfl, hb⟩ := u8_nat wf1
    have hbulk : Rows.uptoBulk y2.1 + Rows.uptoBulk y4.1 + 1 <= s := by
     rw [<- hs]; simp only [List.map_cons, List.map_nil, Rows.uptoBulk, Rows.uptoBulkAll]; omega
    have htb : t.data.toList.length <= s := by
     have : Rows.uptoBulk y2.1 = t.data.toList.length + 1 := by rw [hy2]; simp [Rows.uptoBulk]
     omega
    have hby : (((UInt8.ofNat b).toNat : Nat) : Int) = (b : Int) := by simp; omega
    rcases Go.Deep.open_slice Try.underlying30 e4 with ⟨hcs, _⟩ | ⟨xa, ln, cp, mm, n', D, Pl, hcs, hbb, hl, hm, hmm, hx, hi⟩
    ·simp at hcs
     subst hcs
     refine ⟨⟨a0, UInt8.ofNat b, t.data.toList, a3, .nil⟩, none, 0, Nat.le_refl _, fun _ => rfl, fun j hj => ?_, trivial, by show 1 + 0 <= s; omega, htb⟩
     unfold vlC
     rcases (by omega : j = 0 \/ j = 1 \/ j = 2 \/ j = 3 \/ j = 4) with rfl | rfl | rfl | rfl | rfl
     ·rfl
     ·simp only; rw [hby]; rfl
     ·simp; exact (bs_self t).symm
     ·rfl
     ·rfl
    ·simp at hcs
     subst hcs
     simp only [if_true] at hmm
     subst hmm
     have hD : Rows.uptoBulkAll ((List.range ln).map D) + 1 <= Rows.uptoBulk y4.1 := by rw [hx]; simp only [Rows.uptoBulk]; omega
     have key : ∀ i, i < ln -> ∃ (v : Vl) (B : Option Addr) (c : Nat), v.kids.len <= c /\ (∀ j, j < 5 -> W.cell? (xa.add (i * 5 + j)) = (vlC v B c)[j]?) /\ VRow W B 0 v.kids /\ cntV v <= Rows.uptoBulk (D i) := by
      intro i hil
      obtain ⟨cs', hc, ht⟩ := hi i (by omega)
      rw [cellsVal] at hc
      obtain ⟨_, hcl, hat⟩ := World.cells?_some hc
      have hpart := bulk_part (List.mem_map.2 ⟨i, List.mem_range.2 hil, rfl⟩ : D i ∈ (List.range ln).map D)
      obtain ⟨v, B, c, hv⟩ := ih (Rows.uptoBulk (D i)) (by omega) n' cs' (D i, Pl i) rfl hcl ht
      exact ⟨v, B, c, hv.cap, fun j hj => by rw [<- Go.Deep.add_add, hat j hj, hv.cells j hj], hv.row, hv.cnt⟩
     let f : Nat -> Vl := fun i => if h : i < ln then Classical.choose (key i h) else vl0
     have hfs : ∀ i (hil : i < ln), ∃ (B : Option Addr) (c : Nat), (f i).kids.len <= c /\ (∀ j, j < 5 -> W.cell? (xa.add (i * 5 + j)) = (vlC (f i) B c)[j]?) /\ VRow W B 0 (f i).kids /\ cntV (f i) <= Rows.uptoBulk (D i) := fun i hil => by
      have hfi : f i = Classical.choose (key i hil) := by simp [f, hil]
      rw [hfi]; exact Classical.choose_spec (key i hil)
     have hlist : (Vs.of ((List.range ln).map f)).list = (List.range ln).map f := Vs.list_of _
     have hlen2 : (Vs.of ((List.range ln).map f)).len = ln := by unfold Vs.len; rw [hlist]; simp
     have hsum := bulk_sum (D := D) (f := f) (List.range ln) (fun i hi2 => by
      obtain ⟨_, _, _, _, _, h9⟩ := hfs i (List.mem_range.1 hi2); exact h9)
     refine ⟨⟨a0, UInt8.ofNat b, t.data.toList, a3, Vs.of ((List.range ln).map f)⟩, some xa, mm, by simp only [hlen2]; exact hl, (fun e => by cases e), fun j hj => ?_, ?_, ?_, htb⟩
     ·unfold vlC
      simp only [hlen2]
      rcases (by omega : j = 0 \/ j = 1 \/ j = 2 \/ j = 3 \/ j = 4) with rfl | rfl | rfl | rfl | rfl
      ·rfl
      ·rw [hby]; rfl
      ·simp; exact (bs_self t).symm
      ·rfl
      ·rfl
     ·by_cases hz : ln = 0
      ·subst hz; exact trivial
      ·obtain ⟨g, off, spot⟩ := xa
       obtain ⟨B0, c00, _, hc00, _⟩ := hfs 0 (by omega)
       have hc00 := hc00 0 (by omega)
       have hspot : spot = none := by
        have hc : (vlC (f 0) B0 c00)[0]? = some (.int .i64 (f 0).kind) := rfl
        rw [hc] at hc00
        simpa [Addr.add] using World.cell?_spot hc00
       subst hspot
       have hadd : ∀ k, (⟨g, off, none⟩ : Addr).add k = ⟨g, off + k, none⟩ := fun k => by cases k <;> simp [Addr.add]
       have hg : g < W.heap.size := by
        have hc : (vlC (f 0) B0 c00)[0]? = some (.int .i64 (f 0).kind) := rfl
        rw [hc] at hc00
        have := World.block_lt_of_cell? W _ hc00
        rw [hadd] at this; exact this
       refine VRow.of hg (fun j hj => ?_)
       rw [hlen2] at hj
       obtain ⟨Bj, cj, k1, k2, k3, _⟩ := hfs j hj
       have hatj : (Vs.of ((List.range ln).map f)).at j = f j := by unfold Vs.at; rw [hlist]; simp [hj]
       rw [hatj]
       refine ⟨Bj, cj, k1, fun q hq => ?_, k3⟩
       have := k2 q hq
       rw [hadd] at this
       rw [Nat.zero_add, <- this]; congr 2; omega
     ·show 1 + cntVs (Vs.of ((List.range ln).map f)) <= s
      rw [cntVs_list, hlist]; omega
theorem open_valB (hv : Value.okWide Try.prog W .any base 32 v) (h : DataW.Trod enc Try.prog W 0 (fun _ => true) true 32 v d p) : ∃ (x : Vl) (B : Option Addr) (c : Nat), v = .agg (vlC x B c) /\ x.kids.len <= c /\ (B = none -> c = 0) /\ VRow W B 0 x.kids /\ cntV x <= Rows.uptoBulk d /\ x.text.length <= Rows.uptoBulk d := by
 obtain ⟨cs, rfl, hsz⟩ := okWide_struct Try.underlying32 hv
 rw [cellsVal] at hsz
 obtain ⟨fuel, hf⟩ := h
 obtain ⟨x, B, c, hx⟩ := val_words (Rows.uptoBulk d) fuel cs.toList (d, p) rfl (by rw [Array.length_toList]; exact hsz) (by simpa [Value.cells] using hf)
 refine ⟨x, B, c, ?_, hx.cap, hx.nilc, hx.row, hx.cnt, hx.txt⟩
 congr 1
 refine Array.ext_getElem? (fun j => ?_)
 rcases Nat.lt_or_ge j 5 with hj | hj
 ·rw [<- hx.cells j hj, Array.getElem?_toList]
 ·rw [Array.getElem?_eq_none (by omega), Array.getElem?_eq_none (by show 5 <= j; omega)]
theorem open_val (hv : Value.okWide Try.prog W .any base 32 v) (h : DataW.Trod enc Try.prog W 0 (fun _ => true) true 32 v d p) : ∃ x : Vl, IsV W v x /\ cntV x <= Rows.uptoBulk d /\ x.text.length <= Rows.uptoBulk d := by
 obtain ⟨x, B, c, h1, h2, -, h3, h4, h5⟩ := open_valB hv h
 exact ⟨x, ⟨B, c, h2, h1, h3⟩, h4, h5⟩
end
end Go.Proofs.Ytpbbokdmoaadfaa
namespace Go.Proofs.Ytpbbokdmoaadfaa
set_option maxHeartbeats 64000000
set_option maxRecDepth 1000000
set_option linter.all false
section
variable (key : Nat -> Nat)
end
section
variable {key : Nat -> Nat}
end
end Go.Proofs.Ytpbbokdmoaadfaa
