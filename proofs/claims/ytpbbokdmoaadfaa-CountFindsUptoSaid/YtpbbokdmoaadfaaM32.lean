/- What a value writes: the document's walk, all nodes; Write, Few. -/
import Derived.Test.YtpbbokdmoaadfaaM30
import Derived.Test.YtpbbokdmoaadfaaM31
import Derived.Test.YtpbbokdmoaadfaaM26
import Derived.Test.YtpbbokdmoaadfaaM13
import Derived.Shelf.SlicesQ.Reverse
namespace Go.Proofs.Ytpbbokdmoaadfaa
set_option maxHeartbeats 64000000
set_option maxRecDepth 1000000
set_option linter.all false
open Go Go.RowKit
theorem sum_words {l : List Nd} {m q : Nat} (hm : ∀ n ∈ l, n.text.length <= m) (s : Vs) : ∀ (k : Nat) (ws : List Wd), k <= s.len -> ws.length = k -> (∀ j, j < k -> wrV l q (s.at j) = some (ws.getD j [])) -> ws.flatten.length <= (m + 2) * cntTo s k
 | 0, ws, _, hl, _ => by rw [List.length_eq_zero_iff.1 hl]; simp
 | k + 1, ws, hk, hl, h => by
  have e : ws = ws.take k ++ [ws.getD k []] := by
   conv => lhs; rw [<- List.take_append_drop k ws]
   congr 1
   rw [List.drop_eq_getElem_cons (by omega), List.getD_eq_getElem?_getD, List.getElem?_eq_getElem (by omega), List.drop_of_length_le (by omega)]; rfl
  have h1 := sum_words hm s k (ws.take k) (by omega) (by rw [List.length_take]; omega) (fun j hj => by
   rw [h j (by omega), List.getD_eq_getElem?_getD, List.getD_eq_getElem?_getD, List.getElem?_take, if_pos hj])
  have h2 := wrV_len hm (s.at k) q _ (h k (by omega))
  rw [e, List.flatten_append, List.length_append, cntTo_succ (by omega), Nat.mul_add]
  simp only [List.flatten_cons, List.flatten_nil, List.append_nil]
  omega
theorem at_any (l : List Nd) (A : Option Addr) (c : Nat) (hF : Form l) (hc : l.length <= c) (hlen : l.length <= 536870912) (htx : ∀ n ∈ l, n.text.length <= 2000) : ∀ (v : Vl), cntV v <= 100000 -> ∀ (i : Nat), i < l.length -> ∀ (B : Option Addr) (cv : Nat) (w : World), NRow w A l -> v.kids.len <= cv -> VRow w B 0 v.kids ->
 Calls Try.prog 33 #[.agg #[.slice A l.length c], .int .i64 (i : Int), .agg (vlC v B cv)] w (AtP w (wrV l i v)) := fun v => by
 induction v using Vl.kids_ind with
 | h v ih =>
  intro hcnt i hi B cv w hrow hcv hkr
  have hkc : ∀ j q, j < v.kids.len -> q < l.length -> KidC A l c q (v.kids.at j) := fun j q hj hq Y cy w' h1 h2 h3 =>
   ih _ (List.mem_of_getElem? (Vs.at_get hj)) (by have := cntV_kid hj; omega) q hq Y cy w' h1 h2 h3
  have hlenv : v.kids.len < 4611686018427387904 := by have := cntVs_len v.kids; unfold cntV at hcnt; omega
  have hb1 : ∀ j q W, j < v.kids.len -> wrV l q (v.kids.at j) = some W -> W.length <= 400000000 := fun j q W hj h => by
   have h1 := wrV_len htx _ _ _ h
   have h2 := cntV_kid hj
   have : (2000 + 2) * cntV (v.kids.at j) <= (2000 + 2) * 100000 := Nat.mul_le_mul_left _ (by omega)
   omega
  have ho := hF.2.1 i hi
  have hk9 := ho.kind9
  obtain ⟨n, hn⟩ : ∃ n, atN l i = n := ⟨_, rfl⟩
  have hnm : n ∈ l := by
   rw [<- hn]; unfold atN; rw [List.getD_eq_getElem?_getD, List.getElem?_eq_getElem hi]; exact List.getElem_mem _
  have htn := htx n hnm
  rw [hn] at ho hk9
  have hcs := ho.cs hn
  obtain ⟨kk, na, nb, nlo, nhi, ncls, ntext⟩ := n
  cases hcs with
  | leaf hk hf =>
   unfold leafK at hk
   simp only at hk
   rcases hk with rfl | rfl | rfl
   ·exact at_empty l A c i hi hlen na nb ncls ntext nlo nhi hn v hlenv B cv hcv w hrow hkr
   ·exact at_bytes l A c i hi hlen na nb ncls ntext nlo nhi hn v hlenv B cv hcv w hrow hkr
   ·exact at_text l A c i hi hlen na nb ncls ntext nlo nhi hn v hlenv B cv hcv w hrow hkr (by simp only at htn; omega)
  | one hk hi0 ha hb h7 hr hcl hf =>
   simp only at hk ha hb h7 hr
   obtain ⟨p, rfl⟩ : ∃ p : Nat, na = (p : Int) := ⟨na.toNat, by omega⟩
   have hp : p < i := by omega
   have hb2 : ∀ (k : Nat) (ws : List Wd), k <= v.kids.len -> ws.length = k -> (∀ j, j < k -> wrV l p (v.kids.at j) = some (ws.getD j [])) -> ws.flatten.length <= 400000000 := fun k ws h1 h2 h3 => by
    have h4 := sum_words htx v.kids k ws h1 h2 h3
    have h5 := cntTo_le v.kids k
    have : (2000 + 2) * cntTo v.kids k <= (2000 + 2) * 100000 := Nat.mul_le_mul_left _ (by unfold cntV at hcnt; omega)
    omega
   have hkk : kk = 6 \/ kk = 7 \/ kk = 8 \/ kk = 9 := by omega
   unfold okN backN at ho
   simp only at ho
   rcases hkk with rfl | rfl | rfl | rfl
   ·exact at_star l A c i hi hlen p nb ncls ntext nlo nhi hn v hlenv B cv hcv w hrow hkr hb2 (fun j hj => hkc j p hj (by omega)) (by obtain ⟨h, -⟩ := ho; simp at h; omega) (by obtain ⟨h, -⟩ := ho; simp at h; omega)
   ·exact at_rep l A c i hi hlen p nb ncls ntext nlo nhi hn v hlenv B cv hcv w hrow hkr hb2 (fun j hj => hkc j p hj (by omega)) (by have := hr rfl; omega) (by have := hr rfl; omega)
   ·exact at_frame l A c i hi hlen p nb ncls ntext nlo nhi hn v hlenv B cv hcv w hrow hkr hb1 (fun j q hj hq => hkc j q hj (by omega)) hp
   ·exact at_wide l A c i hi hlen p nb ncls ntext nlo nhi hn v hlenv B cv hcv w hrow hkr hb1 (fun j q hj hq => hkc j q hj (by omega)) hp
  | two hk hi0 hb ha hf0 hl hcl hf =>
   simp only at hk ha hb
   have hle := firstP_le l (i - 1)
   obtain ⟨p, rfl⟩ : ∃ p : Nat, na = (p : Int) := ⟨na.toNat, by omega⟩
   obtain ⟨q, rfl⟩ : ∃ q : Nat, nb = (q : Int) := ⟨nb.toNat, by omega⟩
   rcases hk with rfl | rfl
   ·exact at_four l A c i hi hlen q p ncls ntext nlo nhi hn v hlenv B cv hcv w hrow hkr hb1 (fun j q hj hq => hkc j q hj (by omega)) (by omega) (by omega)
   ·exact at_five l A c i hi hlen p q ncls ntext nlo nhi hn v hlenv B cv hcv w hrow hkr (fun j q hj hq => hkc j q hj (by omega)) (by omega) (by omega)
structure WvS (w0 : World) (A : Option Addr) (l : List Nd) (c : Nat) (v : Vl) (B : Option Addr) (cv : Nat) (w : World) : Prop where
 bel : Below w0.heap.size w0 w
 row : NRow w A l
 box : Blk w w0.heap.size #[.slice A l.length c] 24
 bv : Blk w (w0.heap.size + 1) (vlC v B cv) 32
 kids : VRow w B 0 v.kids
theorem WvS.new (w : World) (A : Option Addr) (l : List Nd) (c : Nat) (v : Vl) (B : Option Addr) (cv : Nat) (h : NRow w A l) (k : VRow w B 0 v.kids) : WvS w A l c v B cv ((w.alloc (.cells #[.slice A l.length c] 24)).alloc (.cells (vlC v B cv) 32)) := by
 have HB := ((Below.refl w.heap.size w).alloc (Nat.le_refl _) (.cells #[.slice A l.length c] 24)).alloc (by simp) (.cells (vlC v B cv) 32)
 exact ⟨HB, h.later HB, (Blk.new w _ _).alloc _, Blk.new' (by simp) _ _, k.later HB⟩
theorem rwrite_any (l : List Nd) (A : Option Addr) (c : Nat) (hF : Form l) (hc : l.length <= c) (hlen : l.length <= 536870912) (htx : ∀ n ∈ l, n.text.length <= 2000) (v : Vl) (hv : cntV v <= 100000) (u : Value) (w : World) (hrow : NRow w A l) (hu : IsV w u v) :
 Calls Try.prog 18 #[.agg #[.slice A l.length c], u] w (AtP w (wrD l v)) := by
 obtain ⟨B, cv, hcv, rfl, hkr⟩ := hu
 have HS0 := Lib.hid (WvS.new w A l c v B cv hrow hkr)
 have hpos := hF.1
 have CA : Hid (∀ w', WvS w A l c v B cv w' -> Calls Try.prog 33 #[.agg #[.slice A l.length c], .int .i64 ((l.length : Int) - 1), .agg (vlC v B cv)] w' (AtP w' (wrD l v))) := fun w' h => by
  have := at_any l A c hF hc hlen htx v hv (l.length - 1) (by omega) B cv w' h.row hcv h.kids
  rwa [show ((l.length - 1 : Nat) : Int) = (l.length : Int) - 1 by omega] at this
 generalize wrD l v = r at *
 have hmin : -9223372036854775808 <= (l.length : Int) - 1 := by omega
 clear hrow hkr hF htx
 obtain ⟨vk, vb, vt, vp, ks⟩ := v
 rw [vlC_five] at *
 simp only at *
 go_enter Try.func18, Try.ntmps18
 go_upto_region 1 with (fail)
 generalize (w.alloc (.cells #[.slice A l.length c] 24)).alloc (.cells #[.int .i64 vk, .int .u8 ((vb.toNat : Nat) : Int), .string (bs vt), .int .i64 vp, .slice B ks.len cv] 32) = w1 at *
 have d0 := HS0.out.box.cell 0
 simp at d0
 obtain ⟨b0, b1, b2, b3, b4⟩ := vl_cells HS0.out.bv
 go_wp2_with fail
 refine (CA.out _ HS0.out).mono ?_; rintro e w2 ⟨x, rfl, ⟨sv, rfl, hx⟩, hb⟩
 have HX := Lib.hid hx
 have HB := Lib.hid (HS0.out.bel.trans (hb.mono HS0.out.bel.size))
 clear hx hb d0 b0 b1 b2 b3 b4
 have hsv : ∃ A' n' c', sv = .slice A' n' c' := by
  have h := HX.out
  cases r with
  | none => exact ⟨_, _, _, h⟩
  | some W => obtain ⟨A', c', h', -⟩ := IsW.len (W := W) h; exact ⟨_, _, _, h'⟩
 obtain ⟨A', n', c', rfl⟩ := hsv
 go_wp2
 go_ret2
 exact ⟨_, rfl, ⟨_, rfl, HX.out⟩, HB.out⟩
def fewV (v : Vl) : Bool := decide (cntV v <= 400) && decide (v.text.length <= 400)
theorem rfewv_any (v : Vl) (hv : cntV v <= 4611686018427387904) (u : Value) (w : World) (hu : IsV w u v) : Calls Try.prog 15 #[u] w (Ans w (.bool (fewV v))) := by
 obtain ⟨B, cv, hcv, rfl, hkr⟩ := hu
 have HS0 := Lib.hid (MnS.new (c := cv) hkr)
 have CM : Hid (∀ w', MnS w v B cv w' -> Calls Try.prog 31 #[.agg (vlC v B cv)] w' (Ans w' (.int .i64 ((cntV v : Nat) : Int)))) := fun w' h => rmany_any v hv _ w' ⟨B, cv, hcv, rfl, h.row⟩
 unfold fewV
 have hn : cntV v <= 4611686018427387904 := hv
 generalize cntV v = n at *
 clear hkr hv
 obtain ⟨vk, vb, vt, vp, ks⟩ := v
 rw [vlC_five] at *
 simp only at *
 have hts : (bs vt).size = vt.length := bs_size vt
 by_cases h1 : n <= 400
 ·have g1 : (n : Int) <= 400 := by omega
  have g1d : decide ((n : Int) <= 400) = true := decide_eq_true g1
  by_cases h2 : vt.length <= 400
  ·have g2 : ((bs vt).size : Int) <= 400 := by omega
   have g2d : decide (((bs vt).size : Int) <= 400) = true := decide_eq_true g2
   have g2n : (bs vt).size <= 400 := by omega
   rw [decide_eq_true h1, decide_eq_true h2]
   clear h2 hts
   go_enter Try.func15, Try.ntmps15
   go_upto_region 1 with (fail)
   generalize w.alloc (.cells #[.int .i64 vk, .int .u8 ((vb.toNat : Nat) : Int), .string (bs vt), .int .i64 vp, .slice B ks.len cv] 32) = w1 at *
   obtain ⟨b0, b1, b2, b3, b4⟩ := vl_cells HS0.out.box
   go_wp2_with fail
   refine (CM.out _ HS0.out).mono ?_; rintro e w2 ⟨rfl, hb⟩
   have HS2 := Lib.hid (HS0.out.later hb)
   clear hb b0 b1 b2 b3 b4 HS0
   obtain ⟨b0, b1, b2, b3, b4⟩ := vl_cells HS2.out.box
   go_wp2
   go_ret
   exact ⟨rfl, HS2.out.bel⟩
  ·have g2 : ¬ ((bs vt).size : Int) <= 400 := by omega
   have g2d : decide (((bs vt).size : Int) <= 400) = false := decide_eq_false g2
   have g2n : ¬ (bs vt).size <= 400 := by omega
   rw [decide_eq_true h1, decide_eq_false h2]
   clear h2 hts
   go_enter Try.func15, Try.ntmps15
   go_upto_region 1 with (fail)
   generalize w.alloc (.cells #[.int .i64 vk, .int .u8 ((vb.toNat : Nat) : Int), .string (bs vt), .int .i64 vp, .slice B ks.len cv] 32) = w1 at *
   obtain ⟨b0, b1, b2, b3, b4⟩ := vl_cells HS0.out.box
   go_wp2_with fail
   refine (CM.out _ HS0.out).mono ?_; rintro e w2 ⟨rfl, hb⟩
   have HS2 := Lib.hid (HS0.out.later hb)
   clear hb b0 b1 b2 b3 b4 HS0
   obtain ⟨b0, b1, b2, b3, b4⟩ := vl_cells HS2.out.box
   go_wp2
   go_ret
   exact ⟨rfl, HS2.out.bel⟩
 ·have g1 : ¬ (n : Int) <= 400 := by omega
  have g1d : decide ((n : Int) <= 400) = false := decide_eq_false g1
  rw [decide_eq_false h1]
  clear hts
  go_enter Try.func15, Try.ntmps15
  go_upto_region 1 with (fail)
  generalize w.alloc (.cells #[.int .i64 vk, .int .u8 ((vb.toNat : Nat) : Int), .string (bs vt), .int .i64 vp, .slice B ks.len cv] 32) = w1 at *
  obtain ⟨b0, b1, b2, b3, b4⟩ := vl_cells HS0.out.box
  go_wp2_with fail
  refine (CM.out _ HS0.out).mono ?_; rintro e w2 ⟨rfl, hb⟩
  have HS2 := Lib.hid (HS0.out.later hb)
  clear hb b0 b1 b2 b3 b4 HS0
  obtain ⟨b0, b1, b2, b3, b4⟩ := vl_cells HS2.out.box
  go_wp2
  go_ret
  exact ⟨rfl, HS2.out.bel⟩
end Go.Proofs.Ytpbbokdmoaadfaa
namespace Go.Proofs.Ytpbbokdmoaadfaa
set_option maxHeartbeats 64000000
set_option maxRecDepth 1000000
set_option linter.all false
open Go Go.RowKit
structure VCl where
 v : Vl
 B : Option Addr
 c : Nat
def vcl0 : VCl := ⟨vl0, none, 0⟩
def VCl.cells (x : VCl) : Array Value := vlC x.v x.B x.c
def flatV : List VCl -> List Value
 | [] => []
 | t :: l => t.cells.toList ++ flatV l
theorem VCl.five (t : VCl) : t.cells.toList.length = 5 := rfl
theorem flatV_length : ∀ l, (flatV l).length = l.length * 5
 | [] => rfl
 | t :: l => by rw [flatV, List.length_append, flatV_length l, VCl.five, List.length_cons]; omega
theorem flatV_append : ∀ l m, flatV (l ++ m) = flatV l ++ flatV m
 | [], m => rfl
 | t :: l, m => by show t.cells.toList ++ flatV (l ++ m) = _; rw [flatV_append l m, flatV, List.append_assoc]
theorem flatV_get : ∀ (l : List VCl) (i j : Nat), i < l.length -> j < 5 -> (flatV l)[i * 5 + j]? = (l.getD i vcl0).cells[j]?
 | [], i, j, h, _ => by simp at h
 | s :: l, 0, j, _, hj => by
  rw [flatV, List.getElem?_append_left (by rw [VCl.five]; omega)]
  simp
 | s :: l, i + 1, j, hi, hj => by
  have ih := flatV_get l i j (by simpa using hi) hj
  show (s.cells.toList ++ flatV l)[(i + 1) * 5 + j]? = _
  rw [List.getElem?_append_right (by rw [VCl.five]; omega), VCl.five, show (i + 1) * 5 + j - 5 = i * 5 + j by omega, ih]
  simp
theorem flatV_ones : ∀ (l : List VCl) (u : Value), u ∈ flatV l -> u.oneCell' = true
 | [], u, h => by cases h
 | t :: l, u, h => by
  rw [flatV, List.mem_append] at h
  rcases h with h | h
  ·simp [VCl.cells, vlC] at h
   rcases h with rfl | rfl | rfl | rfl | rfl <;> rfl
  ·exact flatV_ones l u h
def ClRow (w : World) (a : Option Addr) (l : List VCl) : Prop :=
 ∀ i, i < l.length -> ∃ b off, a = some ⟨b, off, none⟩ /\ b < w.heap.size /\ ∀ j, j < 5 -> w.cell? ⟨b, off + i * 5 + j, none⟩ = (l.getD i vcl0).cells[j]?
def OwnVs (w : World) (base : Nat) (v : Value) (l : List VCl) : Prop := w.ownsRow base 32 5 v l.length (flatV l)
theorem OwnVs.later {w w' : World} {base : Nat} {v : Value} {l : List VCl} (h : OwnVs w base v l) (hb : Below w.heap.size w w') : OwnVs w' base v l := ownsRow_later h hb
theorem OwnVs.row {w : World} {base : Nat} {v : Value} {l : List VCl} (h : OwnVs w base v l) : ∃ a cap, v = .slice a l.length cap /\ l.length <= cap /\ ClRow w a l := by
 obtain ⟨_, ⟨hv, hn⟩ | ⟨g, cap, cur, hv, hb, hg, hc, hm, hs, ht⟩⟩ := h
 ·have : l = [] := List.length_eq_zero_iff.1 hn
  subst this
  exact ⟨none, 0, hv, Nat.le_refl _, fun i hi => by simp at hi⟩
 ·refine ⟨_, cap, hv, hc, fun i hi => ⟨g, 0, rfl, Blk.lt (w := w) (b := g) (vs := cur) (t := 32) hg, fun j hj => ?_⟩⟩
  rw [Blk.cell (w := w) (b := g) (vs := cur) (t := 32) hg, <- flatV_get l i j hi hj, <- ht, List.getElem?_take, if_pos (by omega)]
  simp
theorem infoVal : (Try.prog.info? 32).map (fun i => (i.zero, i.size, i.bytes)) = some (some (.agg #[.int .i64 0, .int .u8 0, .string ⟨#[]⟩, .int .i64 0, .slice none 0 0]), 5, 64) := by kernel_rfl
end Go.Proofs.Ytpbbokdmoaadfaa
namespace Go.Proofs.Ytpbbokdmoaadfaa
set_option maxHeartbeats 64000000
set_option maxRecDepth 1000000
set_option linter.all false
open Go Go.RowKit Go.Sort
def laysRevV_ren : Go.Shelf.Ren := ⟨fun | 35 => 75 | n => n, fun | 0 => 0 | 3 => 3 | 4 => 4 | 22 => 30 | 23 => 32 | n => n, fun n => n⟩
theorem laysRevV : SlLaysE0.n35 Try.prog laysRevV_ren := {
 mixed := by kernel_rfl,
 f35 := ⟨Try.f75.name, by kernel_rfl, Try.func75.trans (congrArg some (by kernel_rfl))⟩,
 t0 := Try.underlying0,
 a0 := Try.isAgg0,
 z0 := Try.sizeOf0,
 v0 := Try.zeroValue0,
 t3 := Try.underlying3,
 a3 := Try.isAgg3,
 z3 := Try.sizeOf3,
 v3 := Try.zeroValue3,
 t4 := Try.underlying4,
 a4 := Try.isAgg4,
 z4 := Try.sizeOf4,
 v4 := Try.zeroValue4,
 t22 := Try.underlying30,
 a22 := Try.isAgg30,
 z22 := Try.sizeOf30,
 v22 := Try.zeroValue30 }
theorem OwnVs.blk {w : World} {base : Nat} {v : Value} {l : List VCl} (h : OwnVs w base v l) (hl : 0 < l.length) : ∃ g cap cur, v = .slice (some ⟨g, 0, none⟩) l.length cap /\ base <= g /\ Blk w g cur 32 /\ l.length <= cap /\ cap <= maxLen /\ cur.size = cap * 5 /\ cur.toList.take (l.length * 5) = flatV l := by
 obtain ⟨hx, h2⟩ := h
 rcases h2 with ⟨-, h2⟩ | ⟨g, cap, cur, h3, h4, h5, h6, h7, h8, h9⟩
 ·omega
 ·exact ⟨g, cap, cur, h3, h4, h5, h6, h7, h8, h9⟩
instance : Inhabited VCl := ⟨vcl0⟩
def encVc (p : VCl) : List Value := p.cells.toList
theorem encVc_len (p : VCl) : (encVc p).length = 5 := VCl.five p
theorem flatKV_eq (l : List VCl) : (Go.Sort.flatK encVc 5 l.toArray).toList = flatV l := by
 apply List.ext_getElem?
 intro t
 have hsz : (Go.Sort.flatK encVc 5 l.toArray).size = l.length * 5 := by rw [size_flatK]; simp
 by_cases ht : t < l.length * 5
 ·have hd : t / 5 < l.length := by omega
  have hm : t % 5 < 5 := Nat.mod_lt _ (by decide)
  have h1 := flatV_get l (t / 5) (t % 5) hd hm
  rw [show t / 5 * 5 + t % 5 = t by omega] at h1
  rw [h1]
  have hs : t < (Go.Sort.flatK encVc 5 l.toArray).size := by rw [hsz]; exact ht
  rw [Array.getElem?_toList, Array.getElem?_eq_getElem hs]
  have h2 := Go.Sort.get_flatK encVc 5 l.toArray t (by simpa using ht)
  rw [getElem!_pos _ t hs] at h2
  rw [h2]
  have e1 : l.toArray[t / 5]! = l.getD (t / 5) vcl0 := by
   rw [getElem!_pos _ _ (by simpa using hd), List.getD_eq_getElem?_getD, List.getElem?_eq_getElem hd]; rfl
  rw [e1]
  unfold encVc
  have hl : t % 5 < (l.getD (t / 5) vcl0).cells.toList.length := by rw [VCl.five]; exact hm
  rw [getElem!_pos (l.getD (t / 5) vcl0).cells.toList (t % 5) hl, <- Array.getElem?_toList, List.getElem?_eq_getElem hl]
 ·rw [List.getElem?_eq_none (by rw [Array.length_toList, hsz]; omega), List.getElem?_eq_none (by rw [flatV_length]; omega)]
theorem revV_any {w : World} {base : Nat} {v : Value} {l : List VCl} (h : OwnVs w base v l) (hl : 0 < l.length) (hm : l.length <= 1000000) :
 Calls Try.prog 75 #[v] w (fun e w' => e = .returned (.tuple #[]) /\ OwnVs w' base v l.reverse /\ w.grownBy w' v.ownBlock) := by
 obtain ⟨g, cap, cur, rfl, hg, hblk, hcap, hmax, hsz, htake⟩ := h.blk hl
 have hF : (Go.Sort.flatK encVc 5 l.toArray).size = l.length * 5 := by rw [size_flatK]; simp
 have hH : HoldsK encVc 5 w g 0 l.toArray := fun j hj => by
  rw [hF] at hj
  refine ⟨?_, hblk.frozen _⟩
  have hs : j < (Go.Sort.flatK encVc 5 l.toArray).size := by rw [hF]; exact hj
  rw [Nat.zero_add, hblk.cell, getElem!_pos _ j hs]
  have e : cur.toList[j]? = (Go.Sort.flatK encVc 5 l.toArray).toList[j]? := by
   rw [flatKV_eq, <- htake, List.getElem?_take, if_pos hj]
  rw [Array.getElem?_toList, Array.getElem?_toList, Array.getElem?_eq_getElem hs] at e
  exact e
 have hc := AnyQ.slices_Reverse laysRevV 5 (fun w => Try.isAgg32 w) (fun w => Try.sizeOf32 w) encVc encVc_len (fun p u hu => flatV_ones [p] u (by unfold flatV; exact List.mem_append_left _ hu)) g 0 cap l.toArray w hH (by simp; omega)
 rw [show l.toArray.size = l.length from by simp] at hc
 refine hc.mono ?_
 rintro e w' ⟨rfl, n, rfl⟩
 have hrev : l.toArray.reverse = l.reverse.toArray := by simp
 rw [hrev]
 have hF2 : (Go.Sort.flatK encVc 5 l.reverse.toArray).size = l.length * 5 := by rw [size_flatK]; simp
 obtain ⟨F, hFe⟩ : ∃ F, F = Go.Sort.flatK encVc 5 l.reverse.toArray := ⟨_, rfl⟩
 have hheap : (putRowK encVc 5 (Go.Sort.ahead w n) g 0 l.reverse.toArray).heap[g]? = some (Obj.cells (putCells id 0 F cur) 32) := by
  unfold putRowK putRow mapBlock Go.Sort.ahead
  simp only [Array.getElem?_modify]
  have hb : w.heap[g]? = some (Obj.cells cur 32) := hblk
  rw [hb, <- hFe]; rfl
 refine ⟨rfl, ⟨flatV_length _, .inr ⟨g, cap, putCells id 0 F cur, by rw [List.length_reverse], hg, hheap, by rw [List.length_reverse]; exact hcap, hmax, by unfold putCells; rw [Array.size_mapIdx]; exact hsz, ?_⟩⟩, ?_⟩
 ·rw [List.length_reverse]
  apply List.ext_getElem?
  intro t
  by_cases ht : t < l.length * 5
  ·rw [List.getElem?_take, if_pos ht, Array.getElem?_toList]
   unfold putCells
   have htc : t < cur.size := by have := Nat.mul_le_mul_right 5 hcap; omega
   rw [Array.getElem?_mapIdx, Array.getElem?_eq_getElem htc, Option.map_some, if_pos ⟨Nat.zero_le _, by rw [hFe, hF2]; omega⟩, Nat.sub_zero, <- flatKV_eq, Array.getElem?_toList, <- hFe, Array.getElem?_eq_getElem (by rw [hFe, hF2]; exact ht), getElem!_pos _ t (by rw [hFe, hF2]; exact ht)]; rfl
  ·rw [List.getElem?_take, if_neg ht, List.getElem?_eq_none (by rw [flatV_length, List.length_reverse]; omega)]
 ·refine ⟨rfl, rfl, rfl, ?_, fun k hk hne => ?_⟩
  ·unfold putRowK putRow mapBlock Go.Sort.ahead; simp
  ·unfold putRowK putRow mapBlock Go.Sort.ahead
   simp only [Array.getElem?_modify]
   rw [if_neg (fun e => hne (by rw [e]; rfl))]
end Go.Proofs.Ytpbbokdmoaadfaa
namespace Go.Proofs.Ytpbbokdmoaadfaa
set_option maxHeartbeats 64000000
set_option maxRecDepth 1000000
set_option linter.all false
open Go Go.RowKit
def VRp (p : Nat -> Prop) (w : World) : Option Addr -> Nat -> Vs -> Prop
 | _, _, .nil => True
 | A, i, .cons k b t q ks r => (∃ g o, A = some ⟨g, o, none⟩ /\ g < w.heap.size /\ p g /\ ∃ B c, ks.len <= c /\ (∀ j, j < 5 -> w.cell? ⟨g, o + i * 5 + j, none⟩ = (vlC ⟨k, b, t, q, ks⟩ B c)[j]?) /\ VRp p w B 0 ks) /\ VRp p w A (i + 1) r
theorem VRp.row {p : Nat -> Prop} {w : World} : ∀ {s : Vs} {A : Option Addr} {i : Nat}, VRp p w A i s -> VRow w A i s
 | .nil, A, i, h => trivial
 | .cons k b t q ks r, A, i, h => by
  obtain ⟨⟨g, o, h1, h2, -, B, c, h3, h4, h5⟩, h6⟩ := h
  exact ⟨⟨g, o, h1, h2, B, c, h3, h4, VRp.row h5⟩, VRp.row h6⟩
theorem VRp.keep {p q : Nat -> Prop} {w w' : World} (hs : w.heap.size <= w'.heap.size) (hq : ∀ g, g < w.heap.size -> p g -> q g) (hk : ∀ g, p g -> g < w.heap.size -> ∀ j v, w.cell? ⟨g, j, none⟩ = some v -> w'.cell? ⟨g, j, none⟩ = some v) :
 ∀ {s : Vs} {A : Option Addr} {i : Nat}, VRp p w A i s -> VRp q w' A i s
 | .nil, A, i, h => trivial
 | .cons k b t r ks rs, A, i, h => by
  obtain ⟨⟨g, o, h1, h2, hp, B, c, h3, h4, h5⟩, h6⟩ := h
  refine ⟨⟨g, o, h1, Nat.lt_of_lt_of_le h2 hs, hq g h2 hp, B, c, h3, fun j hj => ?_, VRp.keep hs hq hk h5⟩, VRp.keep hs hq hk h6⟩
  have e : ∃ v, (vlC ⟨k, b, t, r, ks⟩ B c)[j]? = some v := by
   have : (vlC ⟨k, b, t, r, ks⟩ B c).size = 5 := rfl
   exact ⟨_, Array.getElem?_eq_getElem (by omega)⟩
  obtain ⟨v, hv⟩ := e
  rw [hv]
  exact hk g hp h2 _ v ((h4 j hj).trans hv)
theorem VRp.mono {p q : Nat -> Prop} {w : World} {s : Vs} {A : Option Addr} {i : Nat} (h : VRp p w A i s) (hq : ∀ g, g < w.heap.size -> p g -> q g) : VRp q w A i s := h.keep (Nat.le_refl _) hq fun g _ _ j v e => e
theorem VRp.kc {p : Nat -> Prop} {w w' : World} {s : Vs} {A : Option Addr} {i : Nat} (h : VRp p w A i s) (k : Kc w.heap.size w w') : VRp p w' A i s := h.keep k.size (fun g _ e => e) fun g _ hg j v e => k.cell ⟨g, j, none⟩ v hg e
theorem VRp.later {p : Nat -> Prop} {w w' : World} {s : Vs} {A : Option Addr} {i : Nat} (h : VRp p w A i s) (hb : Below w.heap.size w w') : VRp p w' A i s := h.keep hb.size (fun g _ e => e) fun g _ hg j v e => (hb.cell (p := ⟨g, j, none⟩) hg).trans e
theorem VRp.blocks {p : Nat -> Prop} {w w' : World} {s : Vs} {A : Option Addr} {i : Nat} (h : VRp p w A i s) (hs : w.heap.size <= w'.heap.size) (hk : ∀ g, p g -> g < w.heap.size -> w'.heap[g]? = w.heap[g]?) : VRp p w' A i s := h.keep hs (fun g _ e => e) fun g hp hg j v e => by
 have := hk g hp hg
 unfold World.cell? at e ⊢
 simp only at e ⊢
 rw [this]; exact e
def VOk (p : Nat -> Prop) (w : World) (x : VCl) : Prop := x.v.kids.len <= x.c /\ VRp p w x.B 0 x.v.kids
def CKp (p : Nat -> Prop) (w : World) (l : List VCl) : Prop := ∀ x ∈ l, VOk p w x
theorem Vs.of_len (l : List Vl) : (Vs.of l).len = l.length := by unfold Vs.len; rw [Vs.list_of]
theorem VRp.of {p : Nat -> Prop} {w : World} {g o : Nat} (hg : g < w.heap.size) (hp : p g) : ∀ {l : List VCl} {i : Nat}, (∀ x ∈ l, VOk p w x) -> (∀ k, k < l.length -> ∀ j, j < 5 -> w.cell? ⟨g, o + (i + k) * 5 + j, none⟩ = (l.getD k vcl0).cells[j]?) -> VRp p w (some ⟨g, o, none⟩) i (Vs.of (l.map (·.v)))
 | [], i, h, hc => trivial
 | x :: l, i, h, hc => by
  obtain ⟨⟨k, b, t, q, ks⟩, B, c⟩ := x
  have hx := h _ (List.mem_cons_self ..)
  exact ⟨⟨g, o, rfl, hg, hp, B, c, hx.1, hc 0 (by simp), hx.2⟩, VRp.of hg hp (fun y hy => h y (List.mem_cons_of_mem _ hy)) fun k hk j hj => by
   have := hc (k + 1) (by simp; omega) j hj
   rw [show i + 1 + k = i + (k + 1) by omega]; simpa using this⟩
theorem CKp.vrp {p : Nat -> Prop} {w : World} {a : Option Addr} {l : List VCl} (h : CKp p w l) (hr : ClRow w a l) (hp : ∀ b o, a = some ⟨b, o, none⟩ -> l ≠ [] -> p b) : VRp p w a 0 (Vs.of (l.map (·.v))) := by
 cases l with
 | nil => trivial
 | cons x l =>
  obtain ⟨b, off, rfl, hb, -⟩ := hr 0 (by simp)
  refine VRp.of hb (hp b off rfl (by simp)) h fun k hk j hj => ?_
  obtain ⟨b', off', e, -, hc⟩ := hr k hk
  cases e
  rw [Nat.zero_add]
  exact hc j hj
structure Wk (B g rb : Nat) (tt rk : Nat) (tv : Value) (L : List VCl) (w : World) : Prop where
 blk : Blk w g #[.pointer (some ⟨rb, 0, none⟩), .int .i64 (tt : Int), .int .i64 (rk : Int), tv] 102
 low : B <= g
 own : OwnVs w B tv L
 kids : CKp (fun b => B <= b /\ tv.ownBlock ≠ some b /\ b ≠ g) w L
theorem Wk.later {B g rb tt rk : Nat} {tv : Value} {L : List VCl} {w w' : World} (h : Wk B g rb tt rk tv L w) (hb : Below w.heap.size w w') : Wk B g rb tt rk tv L w' := ⟨h.blk.later hb, h.low, h.own.later hb, fun x hx => ⟨(h.kids x hx).1, (h.kids x hx).2.later hb⟩⟩
theorem Wk.kc {B g rb tt rk : Nat} {tv : Value} {L : List VCl} {w w' : World} (h : Wk B g rb tt rk tv L w) (k : Kc w.heap.size w w') : Wk B g rb tt rk tv L w' := ⟨k.block _ h.blk.lt _ _ h.blk, h.low, k.owns h.own, fun x hx => ⟨(h.kids x hx).1, (h.kids x hx).2.kc k⟩⟩
def NwV (B : Nat) (w : World) (v : Value) (xs : List Vl) : Prop := ∃ A c, v = .slice A xs.length c /\ xs.length <= c /\ VRp (fun b => B <= b) w A 0 (Vs.of xs)
theorem revV_nil (a : Option Addr) (cap : Nat) (w : World) : Calls Try.prog 75 #[.slice a 0 cap] w (Ans w (.tuple #[])) := by
 go_enter Try.func75, Try.ntmps75
 go_wp2
 go_loopw [2, 3] (fun i j w' => i = .int .i64 0 /\ j = .int .i64 (-1) /\ w' = w) (fun _ _ _ => 0)
 case atStart => exact ⟨rfl, rfl, rfl⟩
 case round =>
  obtain ⟨rfl, rfl, rfl⟩ := hrel
  go_wp2
  go_end0
  exact ⟨rfl, Below.refl _ _⟩
def InP (B : Nat) (m : Nat) (l : List Nd) (V : Wd) (L : List VCl) (w0 : World) (e : Ending) (w : World) : Prop := ∃ v, e = .returned v /\ NwV B w v ((L.map (·.v)).reverse) /\ Rk m l V B [] w0 w
theorem cinOrder_any {B g rb tt rk m : Nat} {tv : Value} {L : List VCl} {l : List Nd} {V : Wd} (hL : L.length <= 1000000) (w : World) (h : Wk B g rb tt rk tv L w) (hB : B <= w.heap.size) (hm : m < B) :
 Calls Try.prog 61 #[.pointer (some ⟨g, 0, none⟩)] w (InP B m l V L w) := by
 have hmw : w.cell? ⟨g, 3, none⟩ = some tv := by rw [h.blk.cell]; rfl
 by_cases hz : L = []
 ·subst hz
  obtain ⟨a, cap, rfl, -, -⟩ := h.own.row
  have HC := Lib.hid (revV_nil a cap)
  have HP : Hid (∀ w', Below w.heap.size w w' -> InP B m l V [] w (.returned (.slice a 0 cap)) w') := fun w' hb => ⟨_, rfl, ⟨a, cap, rfl, Nat.zero_le _, trivial⟩, (Rk.refl w B).later hB hb⟩
  have HW := Lib.hid h
  clear h hL
  go_enter Try.func61, Try.ntmps61
  go_wp2_with fail
  refine (HC.out _).mono ?_; rintro e w2 ⟨rfl, hb2⟩
  have d3 := (HW.out.later hb2).blk.cell 3
  simp at d3
  have HPP := Lib.hid (HP.out _ hb2)
  clear hb2 hmw HP HW HC
  go_wp2
  go_ret
  exact HPP.out
 ·have hpos : 0 < L.length := List.length_pos_iff.2 hz
  obtain ⟨gt, cap, cur, hv, hbg, hbt, hlc, -⟩ := h.own.blk hpos
  have HC := Lib.hid (revV_any h.own hpos hL)
  have hne : g ≠ gt := fun e => by
   subst e
   have h1 := h.blk
   unfold Blk at h1 hbt
   rw [h1] at hbt
   have := (Option.some.inj hbt)
   injection this with h2 h3
   exact absurd h3 (by decide)
  have HP : Hid (∀ w', OwnVs w' B tv L.reverse -> w.grownBy w' tv.ownBlock -> InP B m l V L w (.returned tv) w' /\ w'.cell? ⟨g, 3, none⟩ = some tv) := fun w' ho hg => by
   have hnew : ∀ b, b < w.heap.size -> tv.ownBlock ≠ some b -> w'.heap[b]? = w.heap[b]? := fun b hb hn => hg.block b hb (fun e => hn e.symm)
   have hck : CKp (fun b => B <= b) w' L.reverse := fun x hx => by
    obtain ⟨k1, k2⟩ := h.kids x (List.mem_reverse.1 hx)
    exact ⟨k1, (k2.blocks hg.size fun b hb hlt => hnew b hlt hb.2.1).mono fun b _ hb => hb.1⟩
   obtain ⟨a2, cap2, hv2, hlc2, hcl⟩ := ho.row
   refine ⟨⟨tv, rfl, ⟨a2, cap2, by rw [hv2]; simp, by simpa using hlc2, ?_⟩, (Rk.refl w B).growT hB h.own (by decide) hg⟩, ?_⟩
   ·rw [<- List.map_reverse]
    refine hck.vrp hcl fun b o e _ => ?_
    rw [hv2] at hv
    injection hv with h1 h2 h3
    rw [e] at h1
    cases h1
    exact hbg
   ·have := hnew g h.blk.lt (by rw [hv]; intro e; exact hne (Option.some.inj e).symm)
    unfold World.cell? at hmw ⊢
    simp only at hmw ⊢
    rw [this]; exact hmw
  clear h hL hbt hne hv hlc hbg hpos hz hB hm
  go_enter Try.func61, Try.ntmps61
  go_wp2_with fail
  refine HC.out.mono ?_; rintro e w2 ⟨rfl, ho2, hg2⟩
  obtain ⟨h1, d3⟩ := HP.out _ ho2 hg2
  have HPP := Lib.hid h1
  clear h1 hmw HP HC ho2 hg2
  go_wp2
  go_ret
  exact HPP.out
def ValP (m : Nat) (l : List Nd) (V : Wd) (w0 : World) (v : Vl) (e : Ending) (w : World) : Prop := ∃ x : VCl, e = .returned (.agg x.cells) /\ x.v = v /\ VOk (fun b => w0.heap.size <= b) w x /\ Rk m l V w0.heap.size [] w0 w
def ValC (A : Option Addr) (l : List Nd) (c m : Nat) (V : Wd) (i : Nat) : Prop := ∀ (rb : Nat) (u : Value) (W : Wd) (a b r : Nat) (v : Vl) (w : World), Rdr rb A l c u W V m w -> W <+: V -> a <= b -> b <= W.length -> r <= 1 -> (EN l i (sgW W a b))[r]? = some v ->
 Calls Try.prog 32 #[.pointer (some ⟨rb, 0, none⟩), .int .i64 (i : Int), .int .i64 (a : Int), .int .i64 (b : Int), .int .i64 (r : Int)] w (ValP m l V w v)
structure TlS (m : Nat) (A : Option Addr) (l : List Nd) (c : Nat) (u : Value) (W V : Wd) (rb B g tt rk : Nat) (tv : Value) (L : List VCl) (w0 : World) (w : World) : Prop where
 kp : Rk m l V B [] w0 w
 low : B <= w.heap.size
 rd : Rdr rb A l c u W V m w
 wk : Wk B g rb tt rk tv L w
theorem TlS.grow {m : Nat} {A : Option Addr} {l : List Nd} {c : Nat} {u : Value} {W V : Wd} {rb B g tt rk : Nat} {tv : Value} {L : List VCl} {w0 w w' : World} (h : TlS m A l c u W V rb B g tt rk tv L w0 w) (k : RkR m l V w w') : TlS m A l c u W V rb B g tt rk tv L w0 w' :=
 ⟨h.kp.call h.low k, Nat.le_trans h.low k.size, h.rd.rk k, h.wk.kc (k.kc ⟨_, h.rd.kept⟩)⟩
def St (g : Nat) (w0 w : World) : Prop := ∀ b vs t, t ≠ 32 -> b ≠ g -> Blk w0 b vs t -> Blk w b vs t
theorem St.refl (g : Nat) (w : World) : St g w w := fun _ _ _ _ _ h => h
theorem St.trans {g : Nat} {a b c : World} (h : St g a b) (k : St g b c) : St g a c := fun x vs t ht hb hx => k x vs t ht hb (h x vs t ht hb hx)
theorem St.kc {g : Nat} {a b c : World} (h : St g a b) (k : Kc b.heap.size b c) : St g a c := fun x vs t ht hb hx => k.block x (h x vs t ht hb hx).lt _ _ (h x vs t ht hb hx)
theorem St.set {g : Nat} {a b : World} (h : St g a b) (o : Nat) (v : Value) : St g a (b.setCell ⟨g, o, none⟩ v) := fun x vs t ht hb hx => (Below.heap_setCell _ _ _ _ hb).trans (h x vs t ht hb hx)
structure TlT (m : Nat) (A : Option Addr) (l : List Nd) (c : Nat) (u : Value) (W V : Wd) (rb B g tt rk : Nat) (tv : Value) (L : List VCl) (w0 : World) (w : World) : Prop where
 kp : Rk m l V B [] w0 w
 low : B <= w.heap.size
 rd : Rdr rb A l c u W V m w
 wk : Wk B g rb tt rk tv L w
 st : St g w0 w
theorem TlT.grow {m : Nat} {A : Option Addr} {l : List Nd} {c : Nat} {u : Value} {W V : Wd} {rb B g tt rk : Nat} {tv : Value} {L : List VCl} {w0 w w' : World} (h : TlT m A l c u W V rb B g tt rk tv L w0 w) (k : RkR m l V w w') : TlT m A l c u W V rb B g tt rk tv L w0 w' :=
 ⟨h.kp.call h.low k, Nat.le_trans h.low k.size, h.rd.rk k, h.wk.kc (k.kc ⟨_, h.rd.kept⟩), h.st.kc (k.kc ⟨_, h.rd.kept⟩)⟩
def TvR (m : Nat) (l : List Nd) (V : Wd) (H : Nat) (v : Vl) (u : Value) (w : World) : Prop := KeptX w m l V (fun _ => False) /\ ∃ x : VCl, u = .agg x.cells /\ x.v = v /\ VOk (fun b => H <= b) w x
theorem TvR.grow (m : Nat) (l : List Nd) (V : Wd) (H : Nat) (v : Vl) : ∀ u w w', TvR m l V H v u w -> RkR m l V w w' -> TvR m l V H v u w' := fun u w w' ⟨h1, x, h2, h3, h4⟩ k =>
 ⟨(k.map _ (fun g hg => hg.elim) h1).less fun g hg => .inl hg, x, h2, h3, h4.1, h4.2.kc (k.kc ⟨_, h1⟩)⟩
def Z1R (m : Nat) (l : List Nd) (V : Wd) (u : Value) (w : World) : Prop := KeptX w m l V (fun _ => False) /\ ∃ b, u = .slice (some ⟨b, 0, none⟩) 1 1 /\ Blk w b vcl0.cells 32
theorem Z1R.grow (m : Nat) (l : List Nd) (V : Wd) : ∀ u w w', Z1R m l V u w -> RkR m l V w w' -> Z1R m l V u w' := fun u w w' ⟨h1, b, h2, h3⟩ k =>
 ⟨(k.map _ (fun g hg => hg.elim) h1).less fun g hg => .inl hg, b, h2, (k.kc ⟨_, h1⟩).block _ h3.lt _ _ h3⟩
def TelP (m : Nat) (l : List Nd) (V : Wd) (B g rb a q : Nat) (v : Vl) (L : List VCl) (w0 : World) (e : Ending) (w : World) : Prop := ∃ tv x, e = .returned (.tuple #[]) /\ x.v = v /\ Wk B g rb a q tv (L ++ [x]) w /\ Rk m l V B [] w0 w
theorem v1_news {w : World} {b : Nat} {x : VCl} (h : Blk w b x.cells 32) : ∀ (j : Nat) (u : Value), (flatV [x])[j]? = some u -> w.cell? ((⟨b, 0, none⟩ : Addr).add j) = some u := fun j u hu => by
 have e : (flatV [x]) = x.cells.toList := by unfold flatV; simp [flatV]
 rw [e, Array.getElem?_toList] at hu
 have hadd : (⟨b, 0, none⟩ : Addr).add j = ⟨b, j, none⟩ := by unfold Addr.add; split <;> simp_all
 rw [hadd, h.cell]; exact hu
theorem wp_append_v1 {w : World} {o : Oper} {a : Act} {K : Act -> World -> Prop} {Q : Exit -> Act -> World -> Prop} (s x : Operand)
 (ho : o.op = .call { callee := .builtin .append, args := #[s, x], argTypes := #[30, 30] })
 (base : Nat) (v : Value) (l : List VCl) (hs : a.eval s = v) (hown : OwnVs w base v l)
 (b : Nat) (p : VCl) (hx : a.eval x = .slice (some ⟨b, 0, none⟩) 1 1) (hnew : Blk w b p.cells 32) (hlen : l.length < 1073741824) (hbase : base <= w.heap.size)
 (h : ∀ v' w', OwnVs w' base v' (l ++ [p]) -> w.grownBy w' v.ownBlock -> (v'.ownBlock = v.ownBlock \/ ∃ g', v'.ownBlock = some g' /\ w.heap.size <= g') -> K (a.put o.dst v') w') : o.wp Try.prog a w K Q := by
 obtain ⟨ib, hib, hz0, hz1, hz2⟩ := info_parts infoVal
 obtain ⟨v', w', hr, h2, h3, h4⟩ := run_append_where (P := Try.prog) w base 30 o.type 32 ib _ 5 64 Try.underlying30 hib hz0 hz1 hz2 rfl (by decide) v l.length (flatV l) hown ⟨b, 0, none⟩ 1 1 (flatV [p]) (by rw [flatV_length]; rfl) (v1_news hnew) (flatV_ones [p]) (by decide) (by unfold maxLen; omega) (by omega) hbase
 unfold Oper.wp execOp
 simp only [ho, resolve, invoke, builtin, Sem.run_bind, Sem.run_pure, Result.andThen_ok, List.map_toArray, List.map_cons, List.map_nil, hs, hx, hr]
 exact h v' w' (by unfold OwnVs; rw [List.length_append, flatV_append]; exact h2) h3 h4
def put5 (w : World) (g o : Nat) (x : VCl) : World := ((((w.setCell ⟨g, o, none⟩ (.int .i64 x.v.kind)).setCell ⟨g, o + 1, none⟩ (.int .u8 ((x.v.byte.toNat : Nat) : Int))).setCell ⟨g, o + 2, none⟩ (.string (bs x.v.text))).setCell ⟨g, o + 3, none⟩ (.int .i64 x.v.pick)).setCell ⟨g, o + 4, none⟩ (.slice x.B x.v.kids.len x.c)
theorem put5_other {w : World} {g o b : Nat} {x : VCl} (h : b ≠ g) : (put5 w g o x).heap[b]? = w.heap[b]? := by
 unfold put5
 rw [Below.heap_setCell _ _ _ _ h, Below.heap_setCell _ _ _ _ h, Below.heap_setCell _ _ _ _ h, Below.heap_setCell _ _ _ _ h, Below.heap_setCell _ _ _ _ h]
theorem put5_size {w : World} {g o : Nat} {x : VCl} : (put5 w g o x).heap.size = w.heap.size := by unfold put5; simp [World.setCell]
theorem set_five {P R : List Value} {n : Nat} (hP : P.length = n) (y0 y1 y2 y3 y4 x0 x1 x2 x3 x4 : Value) :
 (((((P ++ y0 :: y1 :: y2 :: y3 :: y4 :: R).set n x0).set (n + 1) x1).set (n + 2) x2).set (n + 3) x3).set (n + 4) x4 = P ++ x0 :: x1 :: x2 :: x3 :: x4 :: R := by
 subst hP
 simp [List.set_append]
theorem flatV_cells (x : VCl) : flatV [x] = [.int .i64 x.v.kind, .int .u8 ((x.v.byte.toNat : Nat) : Int), .string (bs x.v.text), .int .i64 x.v.pick, .slice x.B x.v.kids.len x.c] := by
 simp [flatV, VCl.cells, vlC]
theorem own_put5 {w : World} {B g cap : Nat} {L : List VCl} {y x : VCl} (h : OwnVs w B (.slice (some ⟨g, 0, none⟩) (L.length + 1) cap) (L ++ [y])) : OwnVs (put5 w g (L.length * 5) x) B (.slice (some ⟨g, 0, none⟩) (L.length + 1) cap) (L ++ [x]) := by
 obtain ⟨h0, ⟨hv, hn⟩ | ⟨g', cap', cur, hv, hb, hg, hc, hm, hs, ht⟩⟩ := h
 ·rw [List.length_append] at hn; simp at hn
 ·rw [List.length_append, List.length_singleton] at hv
  cases hv
  have hk : Blk w g cur 32 := hg
  have hk5 := ((((hk.setCell (L.length * 5) (.int .i64 x.v.kind)).setCell (L.length * 5 + 1) (.int .u8 ((x.v.byte.toNat : Nat) : Int))).setCell (L.length * 5 + 2) (.string (bs x.v.text))).setCell (L.length * 5 + 3) (.int .i64 x.v.pick)).setCell (L.length * 5 + 4) (.slice x.B x.v.kids.len x.c)
  refine ⟨by rw [flatV_length], .inr ⟨g, cap, _, by simp, hb, hk5, by simpa using hc, hm, by simpa using hs, ?_⟩⟩
  have hlen : (L ++ [x]).length = L.length + 1 := by simp
  have hlen2 : (L ++ [y]).length = L.length + 1 := by simp
  rw [hlen2, flatV_append, flatV_cells] at ht
  have hcur : cur.toList = flatV L ++ Value.int .i64 y.v.kind :: .int .u8 ((y.v.byte.toNat : Nat) : Int) :: .string (bs y.v.text) :: .int .i64 y.v.pick :: .slice y.B y.v.kids.len y.c :: cur.toList.drop ((L.length + 1) * 5) := by
   conv => lhs; rw [<- List.take_append_drop ((L.length + 1) * 5) cur.toList, ht]
   simp
  simp only [Array.toList_setIfInBounds]
  rw [hlen, hcur, set_five (flatV_length L), flatV_append, flatV_cells, List.take_append, List.take_of_length_le (by rw [flatV_length]; omega), flatV_length, show (L.length + 1) * 5 - L.length * 5 = 5 by omega]
  simp
structure TdQ (m : Nat) (l : List Nd) (V : Wd) (B g rb tt rk g2 cap : Nat) (L : List VCl) (x : VCl) (z : Value) (y : VCl) (w0 w : World) : Prop where
 kp : Rk m l V B [] w0 w
 blk : Blk w g #[.pointer (some ⟨rb, 0, none⟩), .int .i64 (tt : Int), .int .i64 (rk : Int), z] 102
 own : OwnVs w B (.slice (some ⟨g2, 0, none⟩) (L.length + 1) cap) (L ++ [y])
 kids : CKp (fun b => B <= b /\ g2 ≠ b /\ b ≠ g) w (L ++ [x])
 low : B <= g /\ B <= g2
 ne : g ≠ g2
 st : St g w0 w
theorem TdQ.at_ {m : Nat} {l : List Nd} {V : Wd} {B g rb tt rk g2 cap : Nat} {L : List VCl} {x : VCl} {z : Value} {y : VCl} {w0 w : World} (h : TdQ m l V B g rb tt rk g2 cap L x z y w0 w) : ∃ cur, Blk w g2 cur 32 /\ ∀ j, j < 5 -> w.cell? ⟨g2, L.length * 5 + j, none⟩ = y.cells[j]? := by
 obtain ⟨gt, cp, cur, hv, hb, hk, -, -, -, ht⟩ := h.own.blk (by simp)
 rw [List.length_append, List.length_singleton] at hv
 cases hv
 refine ⟨cur, hk, fun j hj => ?_⟩
 rw [hk.cell, <- Array.getElem?_toList]
 have h2 := flatV_get (L ++ [y]) L.length j (by simp) hj
 rw [<- ht, List.getElem?_take, if_pos (by simp; omega)] at h2
 rw [h2]; simp
theorem TdQ.put {m : Nat} {l : List Nd} {V : Wd} {B g rb tt rk g2 cap : Nat} {L : List VCl} {x : VCl} {z : Value} {y : VCl} {w0 w : World} (h : TdQ m l V B g rb tt rk g2 cap L x z y w0 w) : TdQ m l V B g rb tt rk g2 cap L x z x w0 (put5 w g2 (L.length * 5) x) := by
 obtain ⟨cur, hk, -⟩ := h.at_
 have hk1 := hk.setCell (L.length * 5) (.int .i64 x.v.kind)
 have hk2 := hk1.setCell (L.length * 5 + 1) (.int .u8 ((x.v.byte.toNat : Nat) : Int))
 have hk3 := hk2.setCell (L.length * 5 + 2) (.string (bs x.v.text))
 have hk4 := hk3.setCell (L.length * 5 + 3) (.int .i64 x.v.pick)
 refine ⟨((((h.kp.setT hk (by decide) h.low.2 _ _).setT hk1 (by decide) h.low.2 _ _).setT hk2 (by decide) h.low.2 _ _).setT hk3 (by decide) h.low.2 _ _).setT hk4 (by decide) h.low.2 _ _,
  (put5_other h.ne).trans h.blk, own_put5 h.own, fun k hk => ⟨(h.kids k hk).1, (h.kids k hk).2.blocks (by rw [put5_size]; exact Nat.le_refl _) fun b hb _ => put5_other fun e => hb.2.1 e.symm⟩, h.low, h.ne, fun b vs t ht hb hx => (put5_other fun e => ?_).trans (h.st b vs t ht hb hx)⟩
 subst e
 have h1 := h.st b vs t ht hb hx
 unfold Blk at h1 hk
 rw [h1] at hk
 have h8 := Option.some.inj hk
 injection h8 with _ h9
 exact ht h9
theorem TdQ.set {m : Nat} {l : List Nd} {V : Wd} {B g rb tt rk g2 cap : Nat} {L : List VCl} {x : VCl} {z : Value} {y : VCl} {w0 w : World} (h : TdQ m l V B g rb tt rk g2 cap L x z y w0 w) (z' : Value) : TdQ m l V B g rb tt rk g2 cap L x z' y w0 (w.setCell ⟨g, 3, none⟩ z') := by
 have hs : (w.setCell ⟨g, 3, none⟩ z').heap.size = w.heap.size := by simp [World.setCell]
 obtain ⟨h0, ⟨hv, hn⟩ | ⟨g', cap', cur, hv, hb, hg, hr⟩⟩ := h.own
 ·rw [List.length_append] at hn; simp at hn
 ·have hv2 := hv
  rw [List.length_append, List.length_singleton] at hv2
  cases hv2
  exact ⟨h.kp.setT h.blk (by decide) h.low.1 _ _, h.blk.setCell 3 z', ⟨h0, .inr ⟨g2, cap, cur, hv, hb, (Below.heap_setCell _ _ _ _ (fun e => h.ne e.symm)).trans hg, hr⟩⟩,
   fun k hk => ⟨(h.kids k hk).1, (h.kids k hk).2.blocks (by rw [hs]; exact Nat.le_refl _) fun b hb _ => Below.heap_setCell _ _ _ _ hb.2.2⟩, h.low, h.ne, h.st.set _ _⟩
theorem two_ends {T G : World -> Prop} {C : Prop} (main : (∀ w, T w -> G w) -> C) (fin : ∀ w, T w -> G w) : C := main fin
theorem ctell2_any {A : Option Addr} {l : List Nd} {c m : Nat} {V : Wd} {i : Nat} (hV : ValC A l c m V i) (rb : Nat) (u : Value) (W : Wd) (B g tt rk : Nat) (tv : Value) (L : List VCl) (a own : Nat) (v : Vl) (w : World)
 (hr : Rdr rb A l c u W V m w) (hW : W <+: V) (hB : B <= w.heap.size) (hwk : Wk B g rb tt rk tv L w) (ha : a <= tt) (ht : tt <= W.length) (hrk : rk <= 1) (ho : 0 < own) (ho2 : own <= 2) (hL : L.length <= 1000000) (hv : (EN l i (sgW W a tt))[rk % own]? = some v) :
 Calls Try.prog 74 #[.pointer (some ⟨g, 0, none⟩), .int .i64 (i : Int), .int .i64 (a : Int), .int .i64 (own : Int)] w (fun e w' => TelP m l V B g rb a (rk / own) v L w e w' /\ St g w w') := by
 have hR : ∀ w w', Below w.heap.size w w' -> RkR m l V w w' := fun w w' => RkR.of m l V w w'
 have HR := Lib.hid hR
 clear hR
 have HS0 : Hid (TlT m A l c u W V rb B g tt rk tv L w w) := ⟨.refl w B, hB, hr, hwk, St.refl g w⟩
 obtain ⟨at_, ct, rfl, hlc, -⟩ := hwk.own.row
 obtain ⟨md, hmd⟩ : ∃ md, rk % own = md := ⟨_, rfl⟩
 obtain ⟨dv, hdv⟩ : ∃ dv, rk / own = dv := ⟨_, rfl⟩
 have hmd1 : md <= 1 := by rw [<- hmd]; exact Nat.le_trans (Nat.mod_le _ _) hrk
 have t1 : (rk : Int).tmod (own : Int) = (md : Int) := by rw [Int.tmod_eq_emod_of_nonneg (by omega), <- hmd]; omega
 have t2 : (rk : Int).tdiv (own : Int) = (dv : Int) := by rw [Int.tdiv_eq_ediv_of_nonneg (by omega), <- hdv]; omega
 have d0 : ¬ (own : Int) = 0 := by omega
 have d3 : ¬ own = 0 := by omega
 have d1 : decide ((own : Int) = 0) = false := by simp; omega
 have d2 : ((own : Int) == 0) = false := by simp; omega
 have hoz : (own : Int) <= 2 := by omega
 have hrz : (rk : Int) <= 1 := by omega
 rw [hmd] at hv
 rw [hdv]
 have HC : Hid (∀ w', Rdr rb A l c u W V m w' -> Calls Try.prog 32 #[.pointer (some ⟨rb, 0, none⟩), .int .i64 (i : Int), .int .i64 (a : Int), .int .i64 (tt : Int), .int .i64 (md : Int)] w' (ValP m l V w' v)) := fun w' h => hV rb u W a tt md v w' h hW ha ht hmd1 hv
 clear hr hW hwk ha ht hv hV hmd hdv
 go_enter Try.func74, Try.ntmps74
 go_upto_region 0 with (fail)
 refine G.wp_region_stable_mid (R := (RkR m l V)) HR.out 23 #[true, true, true, true, true, true, true, true, true, true, true, true, true, true, true, true, true, true, true, true, true, true, true, false, false, false, false, false, false] (S := (TlT m A l c u W V rb B g tt rk (.slice at_ L.length ct) L w)) (hSt := fun _ _ h hr => h.grow hr) (plan := [[(0, none)], [(8, some 0)], [(9, some 1)], [(10, some 2)], [(0, none)], [(12, some 4)], [(13, some 5)], [(14, some 6)], [(1, none)], [(2, none)], [(0, none)], [(18, some 10)], [(19, some 11)], [(20, some 12)], [(0, none)], [(22, some 14)], [(23, some 15)], [(24, some 16)], [(3, none)], [(25, some 17), (26, some 18)], [(15, some 7), (16, some 8), (17, some 9), (21, some 13), (27, some 19)], [(11, some 3)], []]) rfl (by kernel_rfl) (by kernel_rfl) (by kernel_rfl) (by kernel_rfl) ?hS ?_
 rotate_left
 iterate 20 first
  | (refine G.chain_skip (by rfl) (by rfl) ?_)
  | (apply G.chain_want (by rfl)
     ·intro act wx hS hr
      simp at hr
      have HC1 := Lib.hid (HC.out _ hS.rd)
      have t0 := hS.wk.blk.cell 0
      have t1 := hS.wk.blk.cell 1
      have t2 := hS.wk.blk.cell 2
      have t3 := hS.wk.blk.cell 3
      simp at t0 t1 t2 t3
      go_simp
      (try go_ints)
      first
       | exact G.Done.same HR.out
    )
 (refine G.chain_rel (TvR m l V w.heap.size v) (TvR.grow m l V w.heap.size v) (by rfl) ?_ ?_
  ·intro act wx hS hr
   simp at hr
   have HC1 := Lib.hid (HC.out _ hS.rd)
   have t0 := hS.wk.blk.cell 0
   have t1 := hS.wk.blk.cell 1
   have t2 := hS.wk.blk.cell 2
   have t3 := hS.wk.blk.cell 3
   simp at t0 t1 t2 t3
   all_goals go_simp
   (refine HC1.out.mono ?_); rintro e w5 ⟨x5, rfl, hx5, hok5, hk5⟩; exact G.Done.rel hk5 ⟨(hk5.map _ (fun g hg => hg.elim) hS.rd.kept).less fun g hg => .inl hg, x5, rfl, hx5, hok5.1, hok5.2.mono fun b _ hb => Nat.le_trans hS.kp.size hb⟩
 )
 iterate 1 first
  | (refine G.chain_skip (by rfl) (by rfl) ?_)
  | (apply G.chain_want (by rfl)
     ·intro act wx hS hr
      simp at hr
      have HC1 := Lib.hid (HC.out _ hS.rd)
      have t0 := hS.wk.blk.cell 0
      have t1 := hS.wk.blk.cell 1
      have t2 := hS.wk.blk.cell 2
      have t3 := hS.wk.blk.cell 3
      simp at t0 t1 t2 t3
      go_simp
      (try go_ints)
      first
       | exact G.Done.same HR.out
    )
 (refine G.chain_rel (Z1R m l V) (Z1R.grow m l V) (by rfl) ?_ ?_
  ·intro act wx hS hr
   simp at hr
   have HC1 := Lib.hid (HC.out _ hS.rd)
   have t0 := hS.wk.blk.cell 0
   have t1 := hS.wk.blk.cell 1
   have t2 := hS.wk.blk.cell 2
   have t3 := hS.wk.blk.cell 3
   simp at t0 t1 t2 t3
   all_goals go_simp
   exact G.Done.rel (HR.out _ _ ((Below.refl _ _).alloc (Nat.le_refl _) _)) ⟨((HR.out _ _ ((Below.refl _ _).alloc (Nat.le_refl _) _)).map _ (fun g hg => hg.elim) hS.rd.kept).less fun g hg => .inl hg, _, rfl, Blk.new wx _ _⟩
 )
 show ∀ w', _ -> _
 intro w9 hw9
 simp [Act.put]
 case hS => exact HS0.out
 intro v1 hv1 v2 hv2
 obtain ⟨-, x5, rfl, hx5, hok5⟩ := hv1
 obtain ⟨-, b7, rfl, hb7⟩ := hv2
 refine wpAny_ready (rs := [23]) (by kernel_rfl) (by simp) ?_
 refine AllReady.cons rfl (fun K hK => ?_) AllReady.nil
 refine wp_append_v1 (.tmp 11) (.tmp 30) rfl B _ L (by simp [Act.eval]) hw9.wk.own b7 vcl0 (by simp [Act.eval]) hb7 (by omega) hw9.low ?_
 intro v' w' h1 h2 h3
 refine hK _ _ ?_; clear hK K
 have hrk' : Rk m l V B [] w w' := hw9.kp.growT hw9.low hw9.wk.own (by decide) h2
 obtain ⟨g2, cap2, cur2, hv2, hb2, hblk2, hlc2, -⟩ := h1.blk (by simp)
 rw [List.length_append, List.length_singleton] at hv2 hlc2
 subst hv2
 have HL2 : Hid (L.length + 1 <= cap2) := hlc2
 have hiz : ((L.length : Nat) : Int) < (L.length : Int) + 1 := by omega
 have hin0 : ¬ ((L.length : Nat) : Int) < 0 := by omega
 have HW9 := Lib.hid hw9
 have H1 := Lib.hid h1
 have H2 := Lib.hid h2
 have H3 := Lib.hid h3
 have HRK := Lib.hid hrk'
 have HX5 := Lib.hid hx5
 have HOK := Lib.hid hok5
 have HB2 := Lib.hid hb2
 have HBK := Lib.hid hblk2
 have HLC := Lib.hid hlc
 have hq : TdQ m l V B g rb tt rk g2 cap2 L x5 (.slice at_ L.length ct) vcl0 w w' := by
  have hnb : ∀ b, b < w9.heap.size -> (Value.slice at_ L.length ct).ownBlock ≠ some b -> w'.heap[b]? = w9.heap[b]? := fun b hb hn => h2.block b hb fun e => hn e.symm
  have hgt : (Value.slice at_ L.length ct).ownBlock ≠ some g := fun e => by
   obtain ⟨-, ⟨hv, -⟩ | ⟨gt, cp, cu, hv, -, hgg, -⟩⟩ := hw9.wk.own
   ·rw [hv] at e; cases e
   ·rw [hv] at e
    have e : gt = g := Option.some.inj e
    subst e
    have hk := hw9.wk.blk
    unfold Blk at hk
    rw [hgg] at hk
    have h8 := Option.some.inj hk
    injection h8 with _ h9
    exact absurd h9 (by decide)
  have hg2 : g2 = g -> False := fun e => by
   rcases h3 with h3 | ⟨g', h3, h4⟩
   ·exact hgt (by rw [<- h3, <- e]; rfl)
   ·have : g2 = g' := Option.some.inj h3
    have := hw9.wk.blk.lt
    omega
  have hkeep : ∀ b, B <= b -> (Value.slice at_ L.length ct).ownBlock ≠ some b -> b < w9.heap.size -> g2 ≠ b := fun b _ hn hlt e => by
   rcases h3 with h3 | ⟨g', h3, h4⟩
   ·exact hn (by rw [<- h3, <- e]; rfl)
   ·have : g2 = g' := Option.some.inj h3
    omega
  have hnew5 : ∀ b, w.heap.size <= b -> (Value.slice at_ L.length ct).ownBlock ≠ some b := fun b hb e => by
   obtain ⟨-, ⟨hv, -⟩ | ⟨gt, cp, cu, hv, -, hgg, -⟩⟩ := HS0.out.wk.own
   ·rw [hv] at e; cases e
   ·rw [hv] at e
    have e : gt = b := Option.some.inj e
    have := Blk.lt (show Blk w gt cu 32 from hgg)
    omega
  have hglt := HS0.out.wk.blk.lt
  refine ⟨hrk', (hnb g hw9.wk.blk.lt hgt).trans hw9.wk.blk, h1, fun y hy => ?_, ⟨hw9.wk.low, hb2⟩, fun e => hg2 e.symm, fun b vs t ht hb hx => ?stq⟩
  case stq =>
   have h1 := hw9.st b vs t ht hb hx
   refine (hnb b h1.lt fun e => ?_).trans h1
   exact own_typedU hw9.wk.own h1 (by exact fun e => ht e.symm) b e rfl
  have hfin : ∀ {s : Vs} {X : Option Addr} {i : Nat}, VRp (fun b => (B <= b /\ (Value.slice at_ L.length ct).ownBlock ≠ some b /\ b ≠ g) /\ g2 ≠ b) w9 X i s -> VRp (fun b => B <= b /\ g2 ≠ b /\ b ≠ g) w' X i s := fun k => (k.blocks h2.size fun b hb hlt => hnb b hlt hb.1.2.1).mono fun b _ hb => ⟨hb.1.1, hb.2, hb.1.2.2⟩
  rcases List.mem_append.1 hy with hy | hy
  ·obtain ⟨k1, k2⟩ := hw9.wk.kids y hy
   exact ⟨k1, hfin (k2.mono fun b hlt hp => ⟨hp, hkeep b hp.1 hp.2.1 hlt⟩)⟩
  ·rw [List.mem_singleton.1 hy]
   exact ⟨hok5.1, hfin (hok5.2.mono fun b hlt hp => ⟨⟨by omega, hnew5 b hp, by omega⟩, hkeep b (by omega) (hnew5 b hp) hlt⟩)⟩
 have HQ := Lib.hid hq
 obtain ⟨curq, hcq, hcell⟩ := hq.at_
 have q0 : w'.cell? ⟨g2, L.length * 5, none⟩ = some (.int .i64 0) := hcell 0 (by decide)
 have q1 : w'.cell? ⟨g2, L.length * 5 + 1, none⟩ = some (.int .u8 0) := hcell 1 (by decide)
 have q2 : w'.cell? ⟨g2, L.length * 5 + 2, none⟩ = some (.string ⟨#[]⟩) := hcell 2 (by decide)
 have q3 : w'.cell? ⟨g2, L.length * 5 + 3, none⟩ = some (.int .i64 0) := hcell 3 (by decide)
 have q4 : w'.cell? ⟨g2, L.length * 5 + 4, none⟩ = some (.slice none 0 0) := hcell 4 (by decide)
 have f0 := hcq.frozen (L.length * 5)
 have f1 := hcq.frozen (L.length * 5 + 1)
 have f2 := hcq.frozen (L.length * 5 + 2)
 have f3 := hcq.frozen (L.length * 5 + 3)
 have f4 := hcq.frozen (L.length * 5 + 4)
 have s3 := hq.blk.cell 3
 have g3 := hq.blk.frozen 3
 simp at s3
 clear hq hcq hcell
 clear h1 h2 h3 hrk' hx5 hok5 hb2 hblk2 hlc2 hw9 hlc hb7
 refine wpAny_take (i := 24) (v := ?_) rfl (by kernel_rfl) (by kernel_rfl) (by kernel_rfl) (fun _ _ _ h => h) (Or.inl ⟨by rfl, ?_⟩) ?_
 rotate_left
 ·(intro w; go_simp; try with_reducible rfl)
 refine wpAny_take (i := 26) (v := ?_) rfl (by kernel_rfl) (by kernel_rfl) (by kernel_rfl) (fun _ _ _ h => h) (Or.inl ⟨by rfl, ?_⟩) ?_
 rotate_left
 ·(intro w; go_simp; try with_reducible rfl)
 refine wpAny_take (i := 27) (v := ?_) rfl (by kernel_rfl) (by kernel_rfl) (by kernel_rfl) (fun _ _ _ h => h) (Or.inl ⟨by rfl, ?_⟩) ?_
 rotate_left
 ·(intro w; go_simp; try with_reducible rfl)
 obtain ⟨⟨xk, xb, xt, xp, xs⟩, xB, xc⟩ := x5
 refine two_ends (T := TdQ m l V B g rb tt rk g2 cap2 L ⟨⟨xk, xb, xt, xp, xs⟩, xB, xc⟩ (.slice (some ⟨g2, 0, none⟩) (L.length + 1) cap2) ⟨⟨xk, xb, xt, xp, xs⟩, xB, xc⟩ w) (G := ?G) (fun HFIN => ?main) ?fin
 case main =>
  refine wpAny_ready (rs := [25, 28]) (by kernel_rfl) (by simp) ?_
  refine AllReady.cons rfl (fun K hK => ?_) (AllReady.cons rfl (fun K hK => ?_) AllReady.nil)
  ·simp only [VCl.cells, vlC]
   go_simp
   refine hK _ _ ?_; clear hK K
   have HQ2 := Lib.hid HQ.out.put
   unfold put5 at HQ2
   simp only at HQ2
   generalize ((((w'.setCell ⟨g2, L.length * 5, none⟩ (.int .i64 xk)).setCell ⟨g2, L.length * 5 + 1, none⟩ (.int .u8 ((xb.toNat : Nat) : Int))).setCell ⟨g2, L.length * 5 + 2, none⟩ (.string (bs xt))).setCell ⟨g2, L.length * 5 + 3, none⟩ (.int .i64 xp)).setCell ⟨g2, L.length * 5 + 4, none⟩ (.slice xB xs.len xc) = w7 at HQ2 ⊢
   have s3 := HQ2.out.blk.cell 3
   have g3 := HQ2.out.blk.frozen 3
   simp at s3
   refine wpAny_ready (rs := [28]) (by kernel_rfl) (by simp) ?_
   refine AllReady.cons rfl (fun K hK => ?_) AllReady.nil
   go_simp
   refine hK _ _ ?_; clear hK K
   have HQ3 := Lib.hid (HQ2.out.set (.slice (some ⟨g2, 0, none⟩) (L.length + 1) cap2))
   generalize w7.setCell ⟨g, 3, none⟩ (.slice (some ⟨g2, 0, none⟩) (L.length + 1) cap2) = w8 at HQ3 ⊢
   refine wpAny_done (by kernel_rfl) ?_ _
   exact HFIN _ HQ3.out
  ·go_simp
   refine hK _ _ ?_; clear hK K
   have HQ2 := Lib.hid (HQ.out.set (.slice (some ⟨g2, 0, none⟩) (L.length + 1) cap2))
   generalize w'.setCell ⟨g, 3, none⟩ (.slice (some ⟨g2, 0, none⟩) (L.length + 1) cap2) = w7 at HQ2 ⊢
   obtain ⟨curq, hcq, hcell⟩ := HQ2.out.at_
   have q0 : w7.cell? ⟨g2, L.length * 5, none⟩ = some (.int .i64 0) := hcell 0 (by decide)
   have q1 : w7.cell? ⟨g2, L.length * 5 + 1, none⟩ = some (.int .u8 0) := hcell 1 (by decide)
   have q2 : w7.cell? ⟨g2, L.length * 5 + 2, none⟩ = some (.string ⟨#[]⟩) := hcell 2 (by decide)
   have q3 : w7.cell? ⟨g2, L.length * 5 + 3, none⟩ = some (.int .i64 0) := hcell 3 (by decide)
   have q4 : w7.cell? ⟨g2, L.length * 5 + 4, none⟩ = some (.slice none 0 0) := hcell 4 (by decide)
   have f0 := hcq.frozen (L.length * 5)
   have f1 := hcq.frozen (L.length * 5 + 1)
   have f2 := hcq.frozen (L.length * 5 + 2)
   have f3 := hcq.frozen (L.length * 5 + 3)
   have f4 := hcq.frozen (L.length * 5 + 4)
   clear hcq hcell
   refine wpAny_ready (rs := [25]) (by kernel_rfl) (by simp) ?_
   refine AllReady.cons rfl (fun K hK => ?_) AllReady.nil
   simp only [VCl.cells, vlC]
   go_simp
   refine hK _ _ ?_; clear hK K
   have HQ3 := Lib.hid HQ2.out.put
   unfold put5 at HQ3
   simp only at HQ3
   generalize ((((w7.setCell ⟨g2, L.length * 5, none⟩ (.int .i64 xk)).setCell ⟨g2, L.length * 5 + 1, none⟩ (.int .u8 ((xb.toNat : Nat) : Int))).setCell ⟨g2, L.length * 5 + 2, none⟩ (.string (bs xt))).setCell ⟨g2, L.length * 5 + 3, none⟩ (.int .i64 xp)).setCell ⟨g2, L.length * 5 + 4, none⟩ (.slice xB xs.len xc) = w8 at HQ3 ⊢
   refine wpAny_done (by kernel_rfl) ?_ _
   exact HFIN _ HQ3.out
 case fin =>
  intro w8 hq3
  have HQ3 := Lib.hid hq3
  have hx5 := HX5.out
  have hdv1 : (dv : Int) <= 1 := by rw [<- t2, Int.tdiv_eq_ediv_of_nonneg (by omega)]; exact Int.le_trans (Int.ediv_le_self _ (by omega)) hrz
  have hdw : wrap64 (dv : Int) = (dv : Int) := by unfold wrap64; omega
  have t0 := HQ3.out.blk.cell 0
  have u1 := HQ3.out.blk.cell 1
  have u2 := HQ3.out.blk.cell 2
  have e1 := HQ3.out.blk.frozen 1
  have e2 := HQ3.out.blk.frozen 2
  simp at t0 u1 u2
  have HP : Hid (∀ wx, Below (w8.heap.size) ((w8.setCell ⟨g, 1, none⟩ (.int .i64 (a : Int))).setCell ⟨g, 2, none⟩ (.int .i64 (dv : Int))) wx -> TelP m l V B g rb a dv v L w (.returned (.tuple #[])) wx /\ St g w wx) := by
   have hk1 := HQ3.out.blk.setCell 1 (.int .i64 (a : Int))
   have hk2 := hk1.setCell 2 (.int .i64 (dv : Int))
   have hs : ((w8.setCell ⟨g, 1, none⟩ (.int .i64 (a : Int))).setCell ⟨g, 2, none⟩ (.int .i64 (dv : Int))).heap.size = w8.heap.size := by simp [World.setCell]
   have hrk := (HQ3.out.kp.setT HQ3.out.blk (by decide) HQ3.out.low.1 1 (.int .i64 (a : Int))).setT hk1 (by decide) HQ3.out.low.1 2 (.int .i64 (dv : Int))
   have hoth : ∀ b, b ≠ g -> ((w8.setCell ⟨g, 1, none⟩ (.int .i64 (a : Int))).setCell ⟨g, 2, none⟩ (.int .i64 (dv : Int))).heap[b]? = w8.heap[b]? := fun b hb => (Below.heap_setCell _ _ _ _ hb).trans (Below.heap_setCell _ _ _ _ hb)
   have hwk : Wk B g rb a dv (.slice (some ⟨g2, 0, none⟩) (L.length + 1) cap2) (L ++ [⟨⟨xk, xb, xt, xp, xs⟩, xB, xc⟩]) ((w8.setCell ⟨g, 1, none⟩ (.int .i64 (a : Int))).setCell ⟨g, 2, none⟩ (.int .i64 (dv : Int))) := by
    refine ⟨by simpa using hk2, HQ3.out.low.1, ?_, fun y hy => ⟨(HQ3.out.kids y hy).1, ((HQ3.out.kids y hy).2.blocks (by rw [hs]; exact Nat.le_refl _) fun b hb _ => hoth b hb.2.2).mono fun b _ hb => ⟨hb.1, fun e => hb.2.1 (Option.some.inj e), hb.2.2⟩⟩⟩
    obtain ⟨h0, ⟨hv, hn⟩ | ⟨g', cap', cur, hv, hb, hg, hr⟩⟩ := HQ3.out.own
    ·rw [List.length_append] at hn; simp at hn
    ·have hv2 := hv
     rw [List.length_append, List.length_singleton] at hv2
     cases hv2
     exact ⟨h0, .inr ⟨g2, cap2, cur, hv, hb, (hoth g2 (fun e => HQ3.out.ne e.symm)).trans hg, hr⟩⟩
   have hlow : B <= w8.heap.size := Nat.le_trans HQ3.out.low.1 (Nat.le_of_lt HQ3.out.blk.lt)
   have hst := (HQ3.out.st.set 1 (.int .i64 (a : Int))).set 2 (.int .i64 (dv : Int))
   exact fun wx hb => ⟨⟨_, _, rfl, hx5, hwk.later (hb.mono (by rw [hs]; exact Nat.le_refl _)), hrk.later (by rw [hs]; exact hlow) (hb.mono (by rw [hs]; exact Nat.le_refl _))⟩, fun b vs t ht hg hx => (hst b vs t ht hg hx).later (hb.mono (by rw [hs]; exact Nat.le_refl _))⟩
  clear hq3 hx5 HX5 HS0 HC HR HQ HW9 H1 H2 H3 HRK HBK HOK q0 q1 q2 q3 q4 f0 f1 f2 f3 f4 s3 g3 HQ3
  go_upto_region 1 with (fail)
  go_region
  go_end0
  exact HP.out _ ((Below.refl _ _).drew)
theorem ctell_any {A : Option Addr} {l : List Nd} {c m : Nat} {V : Wd} {i : Nat} (hV : ValC A l c m V i) (rb : Nat) (u : Value) (W : Wd) (B g tt rk : Nat) (tv : Value) (L : List VCl) (a own : Nat) (v : Vl) (w : World)
 (hr : Rdr rb A l c u W V m w) (hW : W <+: V) (hB : B <= w.heap.size) (hwk : Wk B g rb tt rk tv L w) (ha : a <= tt) (ht : tt <= W.length) (hrk : rk <= 1) (ho : 0 < own) (ho2 : own <= 2) (hL : L.length <= 1000000) (hv : (EN l i (sgW W a tt))[rk % own]? = some v) :
 Calls Try.prog 74 #[.pointer (some ⟨g, 0, none⟩), .int .i64 (i : Int), .int .i64 (a : Int), .int .i64 (own : Int)] w (TelP m l V B g rb a (rk / own) v L w) :=
 (ctell2_any hV rb u W B g tt rk tv L a own v w hr hW hB hwk ha ht hrk ho ho2 hL hv).mono fun e w' h => h.1
end Go.Proofs.Ytpbbokdmoaadfaa
