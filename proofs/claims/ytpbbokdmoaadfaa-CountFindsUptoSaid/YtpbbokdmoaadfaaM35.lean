/- Counting: rows of lists of places, that a call owns; a row's numbers taken apart. -/
import Derived.Test.YtpbbokdmoaadfaaM34
namespace Go.Proofs.Ytpbbokdmoaadfaa
set_option maxHeartbeats 64000000
set_option maxRecDepth 1000000
set_option linter.all false
open Go Go.RowKit
def OwnLs (w : World) (base : Nat) (v : Value) (vs : List Value) : Prop := w.ownsRow base 78 1 v vs.length vs
theorem OwnLs.later {w w' : World} {base : Nat} {v : Value} {vs : List Value} (h : OwnLs w base v vs) (hb : Below w.heap.size w w') : OwnLs w' base v vs := ownsRow_later h hb
theorem OwnLs.nil (w : World) (base : Nat) : OwnLs w base (.slice none 0 0) [] := ⟨rfl, .inl ⟨rfl, rfl⟩⟩
theorem OwnLs.one {w : World} {base g : Nat} {u : Value} (h : Blk w g #[u] 78) (hb : base <= g) : OwnLs w base (.slice (some ⟨g, 0, none⟩) 1 1) [u] :=
 ⟨rfl, .inr ⟨g, 1, #[u], rfl, hb, h, Nat.le_refl _, by unfold maxLen; omega, rfl, rfl⟩⟩
theorem infoLs : (Try.prog.info? 78).map (fun i => (i.zero, i.size, i.bytes)) = some (some (.slice none 0 0), 1, 24) := by kernel_rfl
theorem wp_append_ls {w : World} {o : Oper} {a : Act} {K : Act -> World -> Prop} {Q : Exit -> Act -> World -> Prop} (s x : Operand)
 (ho : o.op = .call { callee := .builtin .append, args := #[s, x], argTypes := #[99, 99] })
 (base : Nat) (v : Value) (vs : List Value) (hs : a.eval s = v) (hown : OwnLs w base v vs)
 (b : Nat) (A : Option Addr) (n c : Nat) (hx : a.eval x = .slice (some ⟨b, 0, none⟩) 1 1) (hnew : Blk w b #[.slice A n c] 78) (hlen : vs.length < 1073741000) (hbase : base <= w.heap.size)
 (h : ∀ v' w', OwnLs w' base v' (vs ++ [.slice A n c]) -> w.grownBy w' v.ownBlock -> K (a.put o.dst v') w') : o.wp Try.prog a w K Q := by
 obtain ⟨ib, hib, hz0, hz1, hz2⟩ := info_parts infoLs
 have hnews : ∀ (j : Nat) (u : Value), [Value.slice A n c][j]? = some u -> w.cell? ((⟨b, 0, none⟩ : Addr).add j) = some u := by
  intro j u hu
  cases j with
  | zero => simp at hu; subst hu; exact hnew.cell 0
  | succ j => simp at hu
 have hone : ∀ u ∈ [Value.slice A n c], u.oneCell' = true := by simp [Value.oneCell']
 obtain ⟨v', w', hr, h2, h3, _⟩ := run_append_own (P := Try.prog) w base 99 o.type 78 ib _ 1 24 Try.underlying99 hib hz0 hz1 hz2 rfl (by decide) v vs.length vs hown ⟨b, 0, none⟩ 1 1 [.slice A n c] rfl hnews hone (by unfold maxLen; omega) (by omega) hbase
 unfold Oper.wp execOp
 simp only [ho, resolve, invoke, builtin, Sem.run_bind, Sem.run_pure, Result.andThen_ok, List.map_toArray, List.map_cons, List.map_nil, hs, hx, hr]
 exact h v' w' (by unfold OwnLs; rw [List.length_append]; exact h2) h3
def LsR (w : World) (vs : List Value) (Ls : List (List (Nat × Nat))) : Prop := vs.length = Ls.length /\ ∀ k, k < vs.length -> IsR w (vs.getD k (.int .i64 0)) (Ls.getD k [])
theorem LsR.kc {w w' : World} {vs : List Value} {Ls : List (List (Nat × Nat))} (h : LsR w vs Ls) (k : Kc w.heap.size w w') : LsR w' vs Ls := ⟨h.1, fun j hj => k.isR (h.2 j hj)⟩
theorem LsR.keep {w w' : World} {vs : List Value} {Ls : List (List (Nat × Nat))} (h : LsR w vs Ls) (k : ∀ b cur, Blk w b cur 92 -> Blk w' b cur 92) : LsR w' vs Ls := ⟨h.1, fun j hj => by
 obtain ⟨A, c, h1, h2, h3⟩ := h.2 j hj
 exact ⟨A, c, h1, h2, h3.keep k⟩⟩
theorem LsR.snoc {w : World} {vs : List Value} {Ls : List (List (Nat × Nat))} (h : LsR w vs Ls) {u : Value} {L : List (Nat × Nat)} (hu : IsR w u L) : LsR w (vs ++ [u]) (Ls ++ [L]) := by
 refine ⟨by simp [h.1], fun j hj => ?_⟩
 have hl := h.1
 by_cases hk : j < vs.length
 ·rw [List.getD_eq_getElem?_getD, List.getD_eq_getElem?_getD, List.getElem?_append_left hk, List.getElem?_append_left (by omega), <- List.getD_eq_getElem?_getD, <- List.getD_eq_getElem?_getD]
  exact h.2 j hk
 ·have : j = vs.length := by simp at hj; omega
  subst this
  rw [List.getD_eq_getElem?_getD, List.getD_eq_getElem?_getD, List.getElem?_append_right (Nat.le_refl _), List.getElem?_append_right (by omega), hl]
  simpa using hu
theorem LsR.nil (w : World) : LsR w [] [] := ⟨rfl, fun j hj => by simp at hj⟩
def rwF (l : List Nd) (ms : List Nat) (W : Wd) (a : Nat) (p : Nat) : Nat := min 2 (sV (ms.reverse.map (EN l)) W a p)
def rwL (l : List Nd) (ms : List Nat) (W : Wd) (a k : Nat) : List (List (Nat × Nat)) := (List.range (k + 1)).map fun j => plF (W.length + 1) (rwF l (ms.take j) W a)
theorem rwL_succ {l : List Nd} {ms : List Nat} {W : Wd} {a k : Nat} : rwL l ms W a (k + 1) = rwL l ms W a k ++ [plF (W.length + 1) (rwF l (ms.take (k + 1)) W a)] := by
 unfold rwL; rw [List.range_succ, List.map_append]; rfl
theorem rwL_length {l : List Nd} {ms : List Nat} {W : Wd} {a k : Nat} : (rwL l ms W a k).length = k + 1 := by unfold rwL; simp
theorem rwL_get {l : List Nd} {ms : List Nat} {W : Wd} {a k j : Nat} (hj : j <= k) : (rwL l ms W a k).getD j [] = plF (W.length + 1) (rwF l (ms.take j) W a) := by
 unfold rwL
 rw [List.getD_eq_getElem?_getD, List.getElem?_map, List.getElem?_range (by omega)]; rfl
theorem rwF_nil {l : List Nd} {W : Wd} {a p : Nat} (hp : p <= W.length) : rwF l [] W a p = if p = a then 1 else 0 := by
 unfold rwF
 show min 2 (sV [] W a p) = _
 rw [sV_nil hp]; split <;> rfl
theorem rwL_zero {l : List Nd} {ms : List Nat} {W : Wd} {a : Nat} (ha : a <= W.length) : rwL l ms W a 0 = [[(a, 1)]] := by
 unfold rwL
 show [plF (W.length + 1) (rwF l (ms.take 0) W a)] = _
 rw [List.take_zero, plF_congr (G := fun b => if b = a then 1 else 0) fun b hb => rwF_nil (by omega), plF_one (by omega) (by decide)]
theorem mem_take {ms : List Nat} {k : Nat} (hk : k < ms.length) : ms.take (k + 1) = ms.take k ++ [ms.getD k 0] := by
 rw [List.take_succ_eq_append_getElem hk, List.getD_eq_getElem?_getD, List.getElem?_eq_getElem hk]; rfl
theorem rwF_next {l : List Nd} {ms : List Nat} {W : Wd} {a k : Nat} (hF : Form l) (hk : k < ms.length) (hm : ms.getD k 0 < l.length) {b : Nat} (hb : b < W.length + 1) : thV l (ms.getD k 0) W (rwF l (ms.take k) W a) b = rwF l (ms.take (k + 1)) W a b := by
 rw [mem_take hk]
 exact th_snoc hF hm (by omega)
theorem sV_len {l : List Nd} {ms : List Nat} {W : Wd} {a b : Nat} : sV (ms.reverse.map (EN l)) W a b = if a <= b then (sqE (ms.reverse.map (EN l)) (sgW W a b)).length else 0 := rfl
theorem rw_step {l : List Nd} {ms : List Nat} {W : Wd} {a k tt rk : Nat} {ys : List Vl} (hF : Form l) (hk : k < ms.length) (hm : ms.getD k 0 < l.length) (hat : a <= tt) (ht : tt <= W.length) (h : (sqE ((ms.take (k + 1)).reverse.map (EN l)) (sgW W a tt))[rk]? = some ys) :
 rk < sg (W.length + 1) (kdf l (ms.getD k 0) W tt (sV ((ms.take k).reverse.map (EN l)) W a)) /\ ∀ q r s v, q <= tt -> r < sV ((ms.take k).reverse.map (EN l)) W a q -> rk = sg q (kdf l (ms.getD k 0) W tt (sV ((ms.take k).reverse.map (EN l)) W a)) + (r * cV l (ms.getD k 0) W q tt + s) -> (EN l (ms.getD k 0) (sgW W q tt))[s]? = some v -> a <= q /\ ∃ ys', (sqE ((ms.take k).reverse.map (EN l)) (sgW W a q))[r]? = some ys' /\ ys = ys' ++ [v] := by
 rw [mem_take hk] at h
 generalize ms.getD k 0 = i at *
 generalize ms.take k = ns at *
 constructor
 ·have h1 : rk < sV ((ns ++ [i]).reverse.map (EN l)) W a tt := by rw [sV_len, if_pos hat]; exact (List.getElem?_eq_some_iff.1 h).1
  rw [sV_snoc hF hm ht] at h1
  exact h1
 ·intro q r s v hq hr hrk hv
  have haq : a <= q := by
   by_cases h2 : a <= q
   ·exact h2
   ·exfalso; rw [sV_len, if_neg h2] at hr; omega
  have hr2 : r < (sqE (ns.reverse.map (EN l)) (sgW W a q)).length := by rw [sV_len, if_pos haq] at hr; exact hr
  refine ⟨haq, _, List.getElem?_eq_getElem hr2, ?_⟩
  have := idx_row hF hm haq hq ht (List.getElem?_eq_getElem hr2) hv
  rw [show sg q (fun q => sV (ns.reverse.map (EN l)) W a q * cV l i W q tt) = sg q (kdf l i W tt (sV (ns.reverse.map (EN l)) W a)) from rfl, <- hrk, h] at this
  exact Option.some.inj this
theorem memN_len {l : List Nd} (hF : Form l) : ∀ i, i < l.length -> (memN l i).length + firstP l i <= i + 1 := by
 intro i
 induction i using Nat.strongRecOn with
 | ind i ih =>
  intro hi
  have hle := firstP_le l i
  by_cases hk : (atN l i).kind = 4
  ·rw [memN_k4 hF hi hk, List.length_append]
   have hcs := (hF.2.1 i hi).cs rfl
   cases hcs with
   | leaf h1 hf => unfold leafK at h1; omega
   | one h1 hi0 ha hb h7 hr hcl hf => omega
   | two h1 hi0 hb ha hf0 hl hcl hf =>
    have h2 := firstP_le l (i - 1)
    have ea : (atN l i).a.toNat = firstP l (i - 1) - 1 := by omega
    have eb : (atN l i).b.toNat = i - 1 := by omega
    have k1 := ih (firstP l (i - 1) - 1) (by omega) (by omega)
    have k2 := ih (i - 1) (by omega) (by omega)
    rw [ea, eb]
    omega
  ·rw [memN_one hk]; show 1 + _ <= _; omega
theorem IRow.kc {w w' : World} {a : Option Addr} {L : List Int} (h : IRow w a L) (k : Kc w.heap.size w w') : IRow w' a L := fun i hi => by
 obtain ⟨b, off, ha, hlt, hc⟩ := h i hi
 exact ⟨b, off, ha, Nat.lt_of_lt_of_le hlt k.size, k.cell ⟨b, off + i, none⟩ _ hlt hc⟩
theorem IRow.mem {w : World} {a : Option Addr} {l : List Nd} {i k : Nat} (h : IRow w a (memI l i)) (hk : k < (memN l i).length) : ∃ b o, a = some ⟨b, o, none⟩ /\ w.cell? ⟨b, o + k, none⟩ = some (.int .i64 (((memN l i).getD k 0 : Nat) : Int)) := by
 obtain ⟨b, o, ha, -, hc⟩ := h k (by rw [memI_length]; exact hk)
 refine ⟨b, o, ha, ?_⟩
 rw [hc]; unfold memI
 rw [List.getD_eq_getElem?_getD, List.getElem?_map, List.getElem?_eq_getElem hk, List.getD_eq_getElem?_getD, List.getElem?_eq_getElem hk]; rfl
structure CrwS (m : Nat) (l : List Nd) (V : Wd) (W : Wd) (a i k : Nat) (v : Value) (vs : List Value) (w1 w : World) : Prop where
 rk : Rk m l V w1.heap.size [] w1 w
 own : OwnLs w w1.heap.size v vs
 ls : LsR w vs (rwL l (memN l i) W a k)
theorem CrwS.call {m : Nat} {l : List Nd} {V W : Wd} {a i k : Nat} {v : Value} {vs : List Value} {w1 w w' : World} (hK : ∃ X, KeptX w m l V X) (h : CrwS m l V W a i k v vs w1 w) (hk : Rk m l V w.heap.size [] w w') : CrwS m l V W a i k v vs w1 w' :=
 ⟨h.rk.call h.rk.size hk, (hk.kc hK).owns h.own, h.ls.kc (hk.kc hK)⟩
def CrwL (m : Nat) (l : List Nd) (V : Wd) (W : Wd) (a i n : Nat) (w1 : World) (v x : Value) (w : World) : Prop := ∃ (k : Nat) (vs : List Value), k + 1 <= n /\ x = .int .i64 (k : Int) /\ CrwS m l V W a i k v vs w1 w
theorem LsR.at_ {w : World} {vs : List Value} {Ls : List (List (Nat × Nat))} (h : LsR w vs Ls) {k : Nat} (hk : k < vs.length) : ∃ A c, vs.getD k (.int .i64 0) = .slice A (Ls.getD k []).length c /\ (Ls.getD k []).length <= c /\ RcRow w A (Ls.getD k []) := by
 obtain ⟨A, c, h1, h2, h3⟩ := h.2 k hk
 exact ⟨A, c, h1, h2, h3⟩
def LsRow (w : World) (a : Option Addr) (vs : List Value) : Prop := ∀ k, k < vs.length -> ∃ g, a = some ⟨g, 0, none⟩ /\ g < w.heap.size /\ w.cell? ⟨g, k, none⟩ = some (vs.getD k (.int .i64 0))
theorem LsRow.kc {w w' : World} {a : Option Addr} {vs : List Value} (h : LsRow w a vs) (k : Kc w.heap.size w w') : LsRow w' a vs := fun j hj => by
 obtain ⟨g, h1, h2, h3⟩ := h j hj
 exact ⟨g, h1, Nat.lt_of_lt_of_le h2 k.size, k.cell ⟨g, j, none⟩ _ h2 h3⟩
theorem OwnLs.lsRow {w : World} {base : Nat} {v : Value} {vs : List Value} (h : OwnLs w base v vs) : ∃ a cap, v = .slice a vs.length cap /\ LsRow w a vs := by
 obtain ⟨_, ⟨hv, hn⟩ | ⟨g, cap, cur, hv, hb, hg, hc, hm, hs, ht⟩⟩ := h
 ·exact ⟨none, 0, by rw [hv, hn], fun k hk => by omega⟩
 ·refine ⟨_, cap, hv, fun k hk => ⟨g, rfl, Blk.lt (w := w) (b := g) (vs := cur) (t := 78) hg, ?_⟩⟩
  rw [Blk.cell (w := w) (b := g) (vs := cur) (t := 78) hg, List.getD_eq_getElem?_getD, List.getElem?_eq_getElem hk]
  have : cur[k]? = (cur.toList.take (vs.length * 1))[k]? := by rw [List.getElem?_take, if_pos (by omega)]; simp
  rw [this, ht, List.getElem?_eq_getElem hk]; rfl
structure CrpS (m : Nat) (l : List Nd) (V W : Wd) (rb i a tt rk : Nat) (tv : Value) (L : List VCl) (am av : Option Addr) (vs : List Value) (w4 w : World) : Prop where
 k : Rk m l V w4.heap.size [] w4 w
 wk : Wk w4.heap.size w4.heap.size rb tt rk tv L w
 mem : IRow w am (memI l i)
 row : LsRow w av vs
 ls : LsR w vs (rwL l (memN l i) W a ((memN l i).length - 1))
theorem CrpS.later {m : Nat} {l : List Nd} {V W : Wd} {rb i a tt rk : Nat} {tv : Value} {L : List VCl} {am av : Option Addr} {vs : List Value} {w4 w w' : World} (h : CrpS m l V W rb i a tt rk tv L am av vs w4 w) (hb : Below w.heap.size w w') : CrpS m l V W rb i a tt rk tv L am av vs w4 w' :=
 ⟨h.k.later h.k.size hb, h.wk.later hb, h.mem.later hb, fun j hj => by
  obtain ⟨g, h1, h2, h3⟩ := h.row j hj
  exact ⟨g, h1, Nat.lt_of_lt_of_le h2 hb.size, (hb.cell (p := ⟨g, j, none⟩) h2).trans h3⟩, h.ls.keep fun b cur k => k.later hb⟩
def CrpL (m : Nat) (l : List Nd) (V W : Wd) (rb i a to_ : Nat) (xs : List Vl) (am av : Option Addr) (vs : List Value) (w4 : World) (x : Value) (w : World) : Prop :=
 ∃ (k tt rk : Nat) (tv : Value) (L : List VCl) (ys : List Vl), k <= (memN l i).length /\ x = .int .i64 ((k : Int) - 1) /\ a <= tt /\ tt <= to_ /\ rk <= 1 /\ L.length + k = (memN l i).length /\ (sqE (((memN l i).take k).reverse.map (EN l)) (sgW W a tt))[rk]? = some ys /\ xs = ys ++ (L.map (·.v)).reverse /\ CrpS m l V W rb i a tt rk tv L am av vs w4 w
theorem crow_any {l : List Nd} {c m ba oa : Nat} {V : Wd} {i : Nat} (hF : Form l) (hl : l.length <= 4096) (hi : i < l.length) (hk4 : (atN l i).kind = 4) (hE : ∀ j, j < i -> EndsC (some ⟨ba, oa, none⟩) l c m V j) (hRd : ∀ j, j < i -> ReadC (some ⟨ba, oa, none⟩) l c m V j) (hV : ∀ j, j < i -> ValC (some ⟨ba, oa, none⟩) l c m V j)
 (rb : Nat) (u : Value) (W : Wd) (fr tt rk : Nat) (xs : List Vl) (w : World) (hr : Rdr rb (some ⟨ba, oa, none⟩) l c u W V m w) (hW : W <+: V) (hn : V.length <= 900) (hft : fr <= tt) (ht : tt <= W.length) (hrk : rk <= 1) (hx : (sqE ((memN l i).reverse.map (EN l)) (sgW W fr tt))[rk]? = some xs) :
 Calls Try.prog 47 #[.pointer (some ⟨rb, 0, none⟩), .int .i64 (i : Int), .int .i64 (fr : Int), .int .i64 (tt : Int), .int .i64 (rk : Int)] w (KsP m l V xs w) := by
 have hWn : W.length <= 900 := by obtain ⟨t, rfl⟩ := hW; simp at hn; omega
 have hml := memN_len hF i hi
 have hmp := memN_pos hF hi
 have HLT := Lib.hid (memN_lt hF hi hk4)
 have HC := Lib.hid (members_any (c := c) (m := m) (ba := ba) (oa := oa) hF hi (by omega) hr.rd)
 have HR0 := Lib.hid hr
 have HWW := Lib.hid hW
 have HFI : Hid (Form l /\ i < l.length) := ⟨hF, hi⟩
 have HE := Lib.hid hE
 have HRD := Lib.hid hRd
 have HV := Lib.hid hV
 have HX := Lib.hid hx
 obtain ⟨n, hN⟩ : ∃ n, (memN l i).length = n := ⟨_, rfl⟩
 have HN := Lib.hid hN
 rw [hN] at hml hmp
 clear hr hW hE hRd hV hx hk4 hN
 go_enter Try.func47, Try.ntmps47
 go_wp2_with fail
 refine HC.out.mono ?_; rintro e w1 ⟨v1, rfl, ho1, hb1⟩
 obtain ⟨gm, cm, hv1, hcm, -, -⟩ := ho1.drop (by rw [memI_length, HN.out]; omega)
 obtain ⟨am, cm', hv2, hrm1⟩ := ho1.row
 rw [hv1] at hv2
 cases hv2
 rw [memI_length, HN.out] at hv1 hcm
 subst hv1
 have HR1 := Lib.hid (HR0.out.later hb1)
 have HB1 := Lib.hid hb1
 have HM1 := Lib.hid hrm1
 clear ho1 hb1 hrm1 HC HR0
 have hnz : (0 : Int) <= (n : Int) - 1 := by omega
 have hnz2 : (n : Int) <= 4097 := by omega
 go_upto_region 5 with (fail)
 have hb2 := (Below.refl w1.heap.size w1).alloc (Nat.le_refl _) (.cells #[.int .i64 (fr : Int), .int .i64 1] 92)
 have hk2 : Blk (w1.alloc (.cells #[.int .i64 (fr : Int), .int .i64 1] 92)) w1.heap.size (rcC (fr, 1)) 92 := Blk.new w1 _ _
 have hb3 := (Below.refl (w1.alloc (.cells #[.int .i64 (fr : Int), .int .i64 1] 92)).heap.size _).alloc (Nat.le_refl _) (.cells #[.slice (some ⟨w1.heap.size, 0, none⟩) 1 1] 78)
 have hk3 := Blk.new (w1.alloc (.cells #[.int .i64 (fr : Int), .int .i64 1] 92)) #[.slice (some ⟨w1.heap.size, 0, none⟩) 1 1] 78
 rw [show (w1.alloc (.cells #[.int .i64 (fr : Int), .int .i64 1] 92)).heap.size = w1.heap.size + 1 from World.size_alloc _ _] at hk3
 have HS0 : Hid (CrwL m l V W fr i n w1 (.slice (some ⟨w1.heap.size + 1, 0, none⟩) 1 1) (.int .i64 0) ((w1.alloc (.cells #[.int .i64 (fr : Int), .int .i64 1] 92)).alloc (.cells #[.slice (some ⟨w1.heap.size, 0, none⟩) 1 1] 78))) := by
  refine ⟨0, [.slice (some ⟨w1.heap.size, 0, none⟩) 1 1], by omega, rfl, ⟨.of_below (hb2.trans (hb3.mono hb2.size)), OwnLs.one hk3 (Nat.le_succ _), ?_⟩⟩
  rw [rwL_zero (by omega)]
  exact (LsR.nil _).snoc ⟨_, _, rfl, Nat.le_refl _, RcRow.one (hk2.later hb3)⟩
 clear hb2 hk2 hb3 hk3
 generalize (w1.alloc (.cells #[.int .i64 (fr : Int), .int .i64 1] 92)).alloc (.cells #[.slice (some ⟨w1.heap.size, 0, none⟩) 1 1] 78) = w2 at HS0 ⊢
 go_loopw [13, 32] (CrwL m l V W fr i n w1) (fun _ x _ => n - (intOf x).toNat)
 case atStart => exact HS0.out
 case round =>
  obtain ⟨k, vs, hk, rfl, hs⟩ := hrel
  have HS := Lib.hid hs
  have HRW := Lib.hid (HR1.out.at_ (Nat.le_refl _) hs.rk)
  have HMW := Lib.hid (HM1.out.kc (hs.rk.kc ⟨_, HR1.out.kept⟩))
  have hvl : vs.length = k + 1 := by rw [hs.ls.1, rwL_length]
  obtain ⟨a9, c9, hv9, hrow9⟩ := hs.own.lsRow
  have HVL := Lib.hid hvl
  clear hs HS0
  by_cases hlt : k + 1 < n
  ·rw [hvl] at hv9
   subst hv9
   have hltz : (k : Int) < ((n - 1 : Nat) : Int) := by omega
   obtain ⟨bm, om, hem, hcm2⟩ := HMW.out.mem (k := k) (by rw [HN.out]; omega)
   cases hem
   obtain ⟨g9, rfl, -, hc9⟩ := hrow9 k (by omega)
   obtain ⟨A9, n9, hw9, -, -⟩ := HS.out.ls.at_ (k := k) (by omega)
   have hjm : (memN l i).getD k 0 ∈ memN l i := by rw [List.getD_eq_getElem?_getD, List.getElem?_eq_getElem (by rw [HN.out]; omega)]; exact List.getElem_mem _
   have hji := HLT.out _ hjm
   have hIs := HS.out.ls.2 k (by omega)
   rw [rwL_get (Nat.le_refl _)] at hIs
   rw [hw9] at hc9 hIs
   have HCR := Lib.hid (HRD.out _ hji rb u W (rwF l ((memN l i).take k) W fr) _ wr HRW.out HWW.out (fun b => by unfold rwF; omega) hIs)
   have HNX : Hid (plF (W.length + 1) (thV l ((memN l i).getD k 0) W (rwF l ((memN l i).take k) W fr)) = plF (W.length + 1) (rwF l ((memN l i).take (k + 1)) W fr)) := plF_congr fun b hb => rwF_next HFI.out.1 (by rw [HN.out]; omega) (by have := HFI.out.2; omega) hb
   rw [HNX.out] at HCR
   have HLT2 := Lib.hid hlt
   clear hjm hji hIs hw9 hrow9 hvl hlt
   generalize (memN l i).getD k 0 = j at *
   generalize ((rwL l (memN l i) W fr k).getD k []).length = q9 at *
   rw [Nat.zero_add] at hcm2
   go_wp2_with fail
   refine HCR.out.mono ?_; rintro e w5 ⟨v5, rfl, hi5, hk5, -⟩
   obtain ⟨A5, n5, rfl, hl5, hr5⟩ := hi5
   have HK5 := Lib.hid (HS.out.call ⟨_, HRW.out.kept⟩ hk5)
   have hI5 : IsR w5 (.slice A5 (plF (W.length + 1) (rwF l ((memN l i).take (k + 1)) W fr)).length n5) (plF (W.length + 1) (rwF l ((memN l i).take (k + 1)) W fr)) := ⟨A5, n5, rfl, hl5, hr5⟩
   have HI5 := Lib.hid hI5
   clear hk5 hl5 hr5 hI5 HCR hc9 hcm2 HS HRW HMW
   generalize (plF (W.length + 1) (rwF l ((memN l i).take (k + 1)) W fr)).length = q5 at HI5 ⊢
   have hb6 := (Below.refl w5.heap.size w5).alloc (Nat.le_refl _) (.cells #[.slice A5 q5 n5] 78)
   have HX6 := Lib.hid (Blk.new w5 #[.slice A5 q5 n5] 78)
   have HS6 : Hid (CrwS m l V W fr i k (.slice (some ⟨g9, 0, none⟩) (k + 1) c9) vs w1 (w5.alloc (.cells #[.slice A5 q5 n5] 78))) := ⟨HK5.out.rk.later HK5.out.rk.size hb6, HK5.out.own.later hb6, HK5.out.ls.keep fun b cur h => h.later hb6⟩
   have HI6 : Hid (IsR (w5.alloc (.cells #[.slice A5 q5 n5] 78)) (.slice A5 q5 n5) (plF (W.length + 1) (rwF l ((memN l i).take (k + 1)) W fr))) := by
    obtain ⟨A, c, h1, h2, h3⟩ := HI5.out
    exact ⟨A, c, h1, h2, h3.later hb6⟩
   have HVB : Hid (vs.length < 1073741000) := by unfold Hid; rw [HVL.out]; omega
   have HB6 := Lib.hid (HS6.out.rk.size)
   clear hb6 HK5 HI5
   go_wp2_with (at_builtin; refine wpList_plain rfl fun K hK => ?_; refine wp_append_ls _ _ rfl w1.heap.size _ vs rfl HS6.out.own w5.heap.size A5 q5 n5 rfl HX6.out HVB.out HB6.out ?_; intro v' w7 h1 h2; have HO7 := Lib.hid h1; have HG7 := Lib.hid h2; refine hK _ _ ?_; clear h1 h2 hK K)
   have HS7 : Hid (CrwS m l V W fr i (k + 1) v' (vs ++ [.slice A5 q5 n5]) w1 w7) := by
    have hkp : ∀ b cur, Blk (w5.alloc (.cells #[.slice A5 q5 n5] 78)) b cur 92 -> Blk w7 b cur 92 := fun b cur hb => (HG7.out.block b hb.lt (fun e => own_typedU HS6.out.own hb (by decide) b e.symm rfl)).trans hb
    refine ⟨HS6.out.rk.growT HB6.out HS6.out.own (by decide) HG7.out, HO7.out, ?_⟩
    rw [rwL_succ]
    refine (HS6.out.ls.keep hkp).snoc ?_
    obtain ⟨A, c, h1, h2, h3⟩ := HI6.out
    exact ⟨A, c, h1, h2, h3.keep hkp⟩
   go_roundw
   case rel => exact ⟨k + 1, _, by have := HLT2.out; omega, by go_num, HS7.out⟩
   case measure => have := HLT2.out; simp [intOf] <;> omega
  ·obtain rfl : k = n - 1 := by omega
   have hvn : vs.length = n := by omega
   rw [hvn] at hv9
   subst hv9
   have hltz : ¬ ((n - 1 : Nat) : Int) < ((n - 1 : Nat) : Int) := by omega
   have HLS : Hid (LsR wr vs (rwL l (memN l i) W fr ((memN l i).length - 1))) := by unfold Hid; rw [HN.out]; exact HS.out.ls
   have HRO := Lib.hid hrow9
   have HK4 := Lib.hid HS.out.rk
   have hb4 := (Below.refl wr.heap.size wr).alloc (Nat.le_refl _) (.cells #[.pointer (some ⟨rb, 0, none⟩), .int .i64 (tt : Int), .int .i64 (rk : Int), .slice none 0 0] 102)
   have HS4 : Hid (CrpL m l V W rb i fr tt xs (some ⟨gm, 0, none⟩) a9 vs wr (.int .i64 ((n : Int) - 1)) (wr.alloc (.cells #[.pointer (some ⟨rb, 0, none⟩), .int .i64 (tt : Int), .int .i64 (rk : Int), .slice none 0 0] 102))) := by
    refine ⟨n, tt, rk, .slice none 0 0, [], xs, by rw [HN.out]; exact Nat.le_refl _, rfl, hft, Nat.le_refl _, hrk, by rw [HN.out]; simp, by rw [List.take_of_length_le (by rw [HN.out]; exact Nat.le_refl _)]; exact HX.out, by simp, ?_⟩
    exact ⟨.of_below hb4, ⟨Blk.new wr _ _, Nat.le_refl _, ⟨by simp [flatV], .inl ⟨rfl, rfl⟩⟩, fun y hy => by cases hy⟩, HMW.out.later hb4, fun j hj => by
     obtain ⟨g, h1, h2, h3⟩ := hrow9 j hj
     exact ⟨g, h1, Nat.lt_of_lt_of_le h2 hb4.size, (hb4.cell (p := ⟨g, j, none⟩) h2).trans h3⟩, HLS.out.keep fun b cur h => h.later hb4⟩
   have HMB : Hid (m < wr.heap.size) := by
    obtain ⟨es, hm, -⟩ := HRW.out.kept
    exact hm.lt
   clear hb4 hrow9 hvl hlt hk HS hrk hft
   go_wp2
   generalize wr.alloc (.cells #[.pointer (some ⟨rb, 0, none⟩), .int .i64 (tt : Int), .int .i64 (rk : Int), .slice none 0 0] 102) = w4 at HS4 ⊢
   obtain ⟨wl, hwl⟩ : ∃ wl, wl = wr := ⟨wr, rfl⟩
   subst hwl
   go_loopw [17] (CrpL m l V W rb i fr tt xs (some ⟨gm, 0, none⟩) a9 vs wl) (fun x _ => (intOf x + 1).toNat)
   case atStart => exact HS4.out
   case round =>
    obtain ⟨k, t1, r1, tv, L, ys, hk, rfl, h1, h2, h3, h4, h5, h6, hst⟩ := hrel
    have HST := Lib.hid hst
    have H5 := Lib.hid h5
    have H6 := Lib.hid h6
    have H4 := Lib.hid h4
    clear hst h5 h6 h4 HS4
    rw [HN.out] at hk
    cases k with
    | zero =>
     have hneg : ¬ (((0 : Nat) : Int) - 1) >= 0 := by omega
     have hys : ys = [] := by
      have h7 := H5.out
      rw [List.take_zero] at h7
      change (if sgW W fr t1 = [] then [[]] else [])[r1]? = some ys at h7
      split at h7
      ·cases r1 with
       | zero => exact (Option.some.inj h7).symm
       | succ r => cases h7
      ·cases h7
     have HXS : Hid (xs = (L.map (·.v)).reverse) := by unfold Hid; rw [H6.out, hys]; rfl
     have HI := Lib.hid (cinOrder_any (l := l) (V := V) (m := m) (L := L) (by have := H4.out; rw [HN.out] at this; omega) _ HST.out.wk HST.out.k.size HMB.out)
     have HRKW := Lib.hid HST.out.k
     clear HST H5 H6 hys
     go_wp2_with fail
     refine HI.out.mono ?_; rintro e w5 ⟨v5, rfl, j1, j2⟩
     have HP : Hid (KsP m l V xs w (.returned v5) w5) := by
      have k1 : Rk m l V w.heap.size [] w wl := (Rk.of_below HB1.out).call HB1.out.size HK4.out
      refine ⟨v5, rfl, ?_, k1.call k1.size (HRKW.out.then j2)⟩
      rw [HXS.out]
      obtain ⟨A9, c9, k2, k3, k4⟩ := j1
      exact ⟨A9, c9, k2, k3, k4.mono fun b _ hb => Nat.le_trans k1.size hb⟩
     obtain ⟨A9, c9, hv9, -⟩ := j1
     rw [List.length_reverse, List.length_map] at hv9
     subst hv9
     clear j2 HI
     go_wp2
     go_ret
     exact HP.out
    | succ k =>
     have hge : (((k + 1 : Nat) : Int) - 1) = (k : Int) := by omega
     rw [hge]
     clear hge
     have hkz : (k : Int) >= 0 := by omega
     have hkn : k < (memN l i).length := by rw [HN.out]; omega
     have hjm : (memN l i).getD k 0 ∈ memN l i := by rw [List.getD_eq_getElem?_getD, List.getElem?_eq_getElem hkn]; exact List.getElem_mem _
     have hji := HLT.out _ hjm
     have hjl : (memN l i).getD k 0 < l.length := by have := HFI.out.2; omega
     have hkk := HST.out.k.kc ⟨_, HRW.out.kept⟩
     obtain ⟨bm, om, hem, -⟩ := HST.out.mem.mem (k := k) hkn
     cases hem
     obtain ⟨g9, rfl, -, -⟩ := HST.out.row k (by omega)
     obtain ⟨A9, n9, hw9, hw9l, hw9r⟩ := HST.out.ls.at_ (k := k) (by omega)
     have hIs := HST.out.ls.2 k (by omega)
     rw [rwL_get (by rw [HN.out]; omega)] at hIs hw9
     rw [hw9] at hIs
     obtain ⟨hs1, hs2⟩ := rw_step HFI.out.1 hkn hjl h1 (by omega) H5.out
     have HCP := Lib.hid (fun (w' : World) (h : CrpS m l V W rb i fr t1 r1 tv L (some ⟨gm, 0, none⟩) (some ⟨g9, 0, none⟩) vs wl w') => cpart_any HFI.out.1 hjl (HE.out _ hji) (HRD.out _ hji) (HV.out _ hji) rb u W wl.heap.size wl.heap.size t1 r1 tv L (sV (((memN l i).take k).reverse.map (EN l)) W fr) (.slice A9 (plF (W.length + 1) (rwF l ((memN l i).take k) W fr)).length n9) wl w' HRW.out (Nat.le_refl _) h.k HWW.out hn h.k.size h.wk (by omega) h3 (by have := H4.out; rw [HN.out] at this; omega) (by
      obtain ⟨A, cc, e1, e2, e3⟩ := h.ls.2 k (by omega)
      rw [rwL_get (by rw [HN.out]; omega)] at e1 e2 e3
      rw [hw9] at e1
      exact ⟨A, cc, e1, e2, e3⟩) hs1)
     have HS2 := Lib.hid hs2
     have HCM : Hid (∀ w', CrpS m l V W rb i fr t1 r1 tv L (some ⟨gm, 0, none⟩) (some ⟨g9, 0, none⟩) vs wl w' -> w'.cell? ⟨gm, k, none⟩ = some (.int .i64 (((memN l i).getD k 0 : Nat) : Int)) /\ w'.cell? ⟨g9, k, none⟩ = some (.slice A9 (plF (W.length + 1) (rwF l ((memN l i).take k) W fr)).length n9)) := fun w' h => by
      obtain ⟨b, o, e1, e2⟩ := h.mem.mem (k := k) hkn
      cases e1
      obtain ⟨g, e3, -, e4⟩ := h.row k (by omega)
      cases e3
      rw [Nat.zero_add] at e2
      exact ⟨e2, by rw [e4, hw9]⟩
     have hkl : (k : Int) < (n : Int) := by omega
     clear hs1 hs2 hIs hw9 hw9l hw9r hjm hji hjl hkk hkn hvn
     generalize (memN l i).getD k 0 = j at *
     generalize hq9 : (plF (W.length + 1) (rwF l ((memN l i).take k) W fr)).length = q9 at HCP HCM
     clear hq9
     go_upto_region 13 with (fail)
     refine wp_region_stable_tail 9 (S := (CrpS m l V W rb i fr t1 r1 tv L (some ⟨gm, 0, none⟩) (some ⟨g9, 0, none⟩) vs wl)) (hSt := fun _ _ h hb => h.later hb) (plan := [[(16, none)], [(11, none)], [(17, none)], [(59, some 1), (60, some 2)], [(61, some 3)], [(13, none)], [(17, none)], [(63, some 5), (64, some 6)], [(65, some 7)]]) rfl rfl (by kernel_rfl) (by kernel_rfl) (by kernel_rfl) (by kernel_rfl) ?hS ?_
     rotate_left
     iterate 9 first
      | (refine chain_skip (by rfl) (by rfl) ?_)
      | (apply chain_want (by rfl)
         ·intro act wx hS hr
          simp at hr
          obtain ⟨c1, c2⟩ := HCM.out _ hS
          go_simp
          (try go_ints)
          first
           | exact Done.same
        )
     show ∀ w', _ -> _
     intro wz hz
     simp [Act.put]
     case hS => exact HST.out
     have HCC := Lib.hid (HCP.out _ hz)
     have HZ := Lib.hid hz
     clear hz HCP HCM HST
     go_wp2_with fail
     refine HCC.out.mono ?_; rintro e w5 ⟨q, r, s, v, j1, j2, j3, j4, j5, tv', x, rfl, j6, j7, j8⟩
     obtain ⟨j9, ys', j10, j11⟩ := HS2.out q r s v j1 j3 j4 j5
     have HNX : Hid (CrpL m l V W rb i fr tt xs (some ⟨gm, 0, none⟩) (some ⟨g9, 0, none⟩) vs wl (.int .i64 ((k : Int) - 1)) w5) := by
      have hk5 := HZ.out.k.then j8
      have hkc := hk5.kc ⟨_, HRW.out.kept⟩
      exact ⟨k, q, r, tv', L ++ [x], ys', by rw [HN.out]; omega, rfl, j9, by omega, j2, by have := H4.out; simp; omega, j10, by rw [H6.out, j11, List.map_append, List.reverse_append]; simp [j6], ⟨hk5, j7, HMW.out.kc hkc, HRO.out.kc hkc, HLS.out.kc hkc⟩⟩
     clear j1 j2 j3 j4 j5 j6 j7 j8 j9 j10 j11 HS2 HCC HZ H4 H5 H6
     go_wp2
     go_roundw
     case rel => exact HNX.out
     case measure => simp [intOf]
def PikP (m : Nat) (l : List Nd) (V : Wd) (EL : List Vl) (r : Nat) (w0 : World) (e : Ending) (w : World) : Prop := Rk m l V w0.heap.size [] w0 w /\
 ((∃ (x : VCl) (v : Vl), EL[r]? = some v /\ x.v = v /\ e = .returned (.tuple #[.agg x.cells, .int .i64 0, .bool true]) /\ VOk (fun b => w0.heap.size <= b) w x) \/ (EL.length <= r /\ e = .returned (.tuple #[.agg vcl0.cells, .int .i64 ((r - EL.length : Nat) : Int), .bool false])))
def PicC (A : Option Addr) (l : List Nd) (c m : Nat) (V : Wd) (i : Nat) : Prop := ∀ (rb : Nat) (u : Value) (W : Wd) (a b r : Nat) (w : World), Rdr rb A l c u W V m w -> W <+: V -> a <= b -> b <= W.length -> r <= 1 ->
 Calls Try.prog 48 #[.pointer (some ⟨rb, 0, none⟩), .int .i64 (i : Int), .int .i64 (a : Int), .int .i64 (b : Int), .int .i64 (r : Int)] w (PikP m l V (EN l i (sgW W a b)) r w)
theorem pik_num {l : List Nd} {i : Nat} {W : Wd} {a b r : Nat} (hF : Form l) (hi : i < l.length) (hab : a <= b) (hr : r <= 1) : (r < rowV l i W a b -> r < (EN l i (sgW W a b)).length) /\ (¬ r < rowV l i W a b -> (EN l i (sgW W a b)).length <= r /\ rowV l i W a b = (EN l i (sgW W a b)).length) := by
 have h1 : (EN l i (sgW W a b)).length = cV l i W a b := by rw [EN_length hF hi]; unfold cV; rw [if_pos hab]
 rw [rowV_cV, h1]
 constructor
 ·intro h; omega
 ·intro h; omega
theorem VOk.turn {p : Nat -> Prop} {w w' : World} {g : Nat} {x : VCl} (h : VOk (fun b => p b /\ b ≠ g) w x) (hs : w.heap.size <= w'.heap.size) (hk : ∀ b, b ≠ g -> w'.heap[b]? = w.heap[b]?) : VOk p w' x :=
 ⟨h.1, (h.2.blocks hs fun b hb _ => hk b hb.2).mono fun b _ hb => hb.1⟩
def put5c (w : World) (g : Nat) (c0 c1 c2 c3 c4 : Value) : World := ((((w.setCell ⟨g, 0, none⟩ c0).setCell ⟨g, 1, none⟩ c1).setCell ⟨g, 2, none⟩ c2).setCell ⟨g, 3, none⟩ c3).setCell ⟨g, 4, none⟩ c4
theorem put5c_size (w : World) (g : Nat) (c0 c1 c2 c3 c4 : Value) : (put5c w g c0 c1 c2 c3 c4).heap.size = w.heap.size := by unfold put5c; simp [World.setCell]
theorem put5c_other {w : World} {g : Nat} {c0 c1 c2 c3 c4 : Value} {b : Nat} (hb : b ≠ g) : (put5c w g c0 c1 c2 c3 c4).heap[b]? = w.heap[b]? := by
 unfold put5c
 rw [Below.heap_setCell _ _ _ _ hb, Below.heap_setCell _ _ _ _ hb, Below.heap_setCell _ _ _ _ hb, Below.heap_setCell _ _ _ _ hb, Below.heap_setCell _ _ _ _ hb]
theorem put5c_rk {m : Nat} {l : List Nd} {V : Wd} {B : Nat} {w0 w : World} {g : Nat} {z0 z1 z2 z3 z4 : Value} (h : Rk m l V B [] w0 w) (hk : Blk w g #[z0, z1, z2, z3, z4] 32) (hg : B <= g) (c0 c1 c2 c3 c4 : Value) : Rk m l V B [] w0 (put5c w g c0 c1 c2 c3 c4) /\ Blk (put5c w g c0 c1 c2 c3 c4) g #[c0, c1, c2, c3, c4] 32 := by
 unfold put5c
 have k0 := hk.setCell 0 c0
 have k1 := k0.setCell 1 c1
 have k2 := k1.setCell 2 c2
 have k3 := k2.setCell 3 c3
 have k4 := k3.setCell 4 c4
 exact ⟨((((h.setT hk (by decide) hg 0 c0).setT k0 (by decide) hg 1 c1).setT k1 (by decide) hg 2 c2).setT k2 (by decide) hg 3 c3).setT k3 (by decide) hg 4 c4, by simpa using k4⟩
theorem pick_other {l : List Nd} {c m ba oa : Nat} {V : Wd} {i : Nat} (hF : Form l) (hi : i < l.length) (hk5 : (atN l i).kind ≠ 5) (hn : V.length <= 900) (hE : EndsC (some ⟨ba, oa, none⟩) l c m V i) (hV : ValC (some ⟨ba, oa, none⟩) l c m V i) : PicC (some ⟨ba, oa, none⟩) l c m V i := by
 intro rb u W a b r w hr hW hab hb hrk
 have hWn : W.length <= 900 := by obtain ⟨t, rfl⟩ := hW; simp at hn; omega
 have hb1 := (Below.refl w.heap.size w).alloc (Nat.le_refl _) (.cells #[.int .i64 0, .int .u8 0, .string ⟨#[]⟩, .int .i64 0, .slice none 0 0] 32)
 have HR1 := Lib.hid (hr.later hb1)
 have HB1 := Lib.hid hb1
 have HZ1 := Lib.hid (Blk.new w #[.int .i64 0, .int .u8 0, .string ⟨#[]⟩, .int .i64 0, .slice none 0 0] 32)
 have HI := Lib.hid hi
 have HC := Lib.hid (fun (w' : World) (h : Rdr rb (some ⟨ba, oa, none⟩) l c u W V m w') => cways_any hE rb u W a b w' h hW hn (by omega) hb)
 have HVC := Lib.hid (fun (w' : World) (v : Vl) (h : Rdr rb (some ⟨ba, oa, none⟩) l c u W V m w') (hv : (EN l i (sgW W a b))[r]? = some v) => hV rb u W a b r v w' h hW hab hb hrk hv)
 have HNUM := Lib.hid (pik_num (W := W) (r := r) hF hi hab hrk)
 have hil : (i : Int) < (l.length : Int) := by omega
 have hi0 : ¬ (i : Int) < 0 := by omega
 have hkz : ((atN l i).kind != 5) = true := by simpa using hk5
 have hrow2 : rowV l i W a b <= 2 := rowV_le
 have hrz : (r : Int) <= 1 := by omega
 clear hr hW hb1 hE hV hk5 hF hi
 generalize rowV l i W a b = x at *
 generalize EN l i (sgW W a b) = EL at *
 go_enter Try.func48, Try.ntmps48
 go_upto_region 1 with (fail)
 generalize w.alloc (.cells #[.int .i64 0, .int .u8 0, .string ⟨#[]⟩, .int .i64 0, .slice none 0 0] 32) = w1 at *
 obtain ⟨b8, o8, hA8, hg8⟩ := HR1.out.rd.row.at10 HI.out
 cases hA8
 unfold At10 at hg8
 obtain ⟨g0, -⟩ := hg8
 have k0 := HR1.out.rd.blk.cell 0
 simp at k0
 generalize (atN l i).kind = kk at *
 go_wp2_with fail
 refine (HC.out w1 HR1.out).mono ?_; rintro e w2 ⟨rfl, hk2⟩
 have HR2 := Lib.hid (HR1.out.rk hk2)
 have HZ2 := Lib.hid ((hk2.kc ⟨_, HR1.out.kept⟩).block _ HZ1.out.lt _ _ HZ1.out)
 have HK2 := Lib.hid ((Rk.of_below (m := m) (l := l) (V := V) HB1.out).call HB1.out.size hk2)
 have HL2 : Hid (w.heap.size < w2.heap.size) := Nat.lt_of_lt_of_le HZ1.out.lt hk2.size
 clear hk2 HC HZ1 HB1 HR1 g0 k0
 by_cases hrx : r < x
 ·have hv := List.getElem?_eq_getElem (HNUM.out.1 hrx)
  have hge : ¬ (r : Int) >= (x : Int) := by omega
  obtain ⟨v, hvv⟩ : ∃ v, EL[r]'(HNUM.out.1 hrx) = v := ⟨_, rfl⟩
  rw [hvv] at hv
  have HVR := Lib.hid hv
  clear hv hvv hrx
  go_wp2_with fail
  refine (HVC.out w2 v HR2.out HVR.out).mono ?_; rintro e w5 ⟨x5, rfl, hx5, hok5, hk5⟩
  have HZ5 := Lib.hid ((hk5.kc ⟨_, HR2.out.kept⟩).block _ HZ2.out.lt _ _ HZ2.out)
  have HK5 := Lib.hid (HK2.out.call HK2.out.size hk5)
  have HOK := Lib.hid hok5
  have HX5 := Lib.hid hx5
  clear hx5 hok5 hk5 HVC HR2 HZ2 HK2
  obtain ⟨⟨xk, xb, xt, xp, xs⟩, xB, xc⟩ := x5
  simp only [VCl.cells, vlC]
  have z0 := HZ5.out.cell 0
  have z1 := HZ5.out.cell 1
  have z2 := HZ5.out.cell 2
  have z3 := HZ5.out.cell 3
  have z4 := HZ5.out.cell 4
  simp at z0 z1 z2 z3 z4
  have f0 := HZ5.out.frozen 0
  have f1 := HZ5.out.frozen 1
  have f2 := HZ5.out.frozen 2
  have f3 := HZ5.out.frozen 3
  have f4 := HZ5.out.frozen 4
  have HPP : Hid (PikP m l V EL r w (.returned (.tuple #[.agg #[.int .i64 xk, .int .u8 ((xb.toNat : Nat) : Int), .string (bs xt), .int .i64 xp, .slice xB xs.len xc], .int .i64 0, .bool true])) (put5c w5 w.heap.size (.int .i64 xk) (.int .u8 ((xb.toNat : Nat) : Int)) (.string (bs xt)) (.int .i64 xp) (.slice xB xs.len xc))) := by
   obtain ⟨h1, h2⟩ := put5c_rk HK5.out HZ5.out (Nat.le_refl _) (.int .i64 xk) (.int .u8 ((xb.toNat : Nat) : Int)) (.string (bs xt)) (.int .i64 xp) (.slice xB xs.len xc)
   refine ⟨h1, .inl ⟨⟨⟨xk, xb, xt, xp, xs⟩, xB, xc⟩, v, HVR.out, HX5.out, rfl, ?_⟩⟩
   refine VOk.turn (g := w.heap.size) ⟨HOK.out.1, HOK.out.2.mono fun b _ hb => ⟨by have := HL2.out; omega, by have := HL2.out; omega⟩⟩ (by rw [put5c_size]; exact Nat.le_refl _) fun b hb => put5c_other hb
  have HP2 := HPP.out
  unfold put5c at HP2
  have HP3 := Lib.hid HP2
  clear HP2 HPP HK5 HZ5 HOK HX5 HL2
  go_wp2
  refine bodyPost_ret (v := .tuple #[.agg #[.int .i64 xk, .int .u8 ((xb.toNat : Nat) : Int), .string (bs xt), .int .i64 xp, .slice xB xs.len xc], .int .i64 0, .bool true]) ?_ rfl ?_
  ·simp [results, Try.results48, go_sem]
   go_simp
   try rfl
  ·exact HP3.out
 ·obtain ⟨h1, h2⟩ := HNUM.out.2 hrx
  have hge : (r : Int) >= (x : Int) := by omega
  obtain ⟨d, hd⟩ : ∃ d, r - x = d := ⟨_, rfl⟩
  have hdz : (r : Int) - (x : Int) = (d : Int) := by omega
  have z0 := HZ2.out.cell 0
  have z1 := HZ2.out.cell 1
  have z2 := HZ2.out.cell 2
  have z3 := HZ2.out.cell 3
  have z4 := HZ2.out.cell 4
  simp at z0 z1 z2 z3 z4
  have f0 := HZ2.out.frozen 0
  have f1 := HZ2.out.frozen 1
  have f2 := HZ2.out.frozen 2
  have f3 := HZ2.out.frozen 3
  have f4 := HZ2.out.frozen 4
  have HPP : Hid (PikP m l V EL r w (.returned (.tuple #[.agg #[.int .i64 0, .int .u8 0, .string ⟨#[]⟩, .int .i64 0, .slice none 0 0], .int .i64 (d : Int), .bool false])) (put5c w2 w.heap.size (.int .i64 0) (.int .u8 0) (.string ⟨#[]⟩) (.int .i64 0) (.slice none 0 0))) := by
   obtain ⟨k1, k2⟩ := put5c_rk HK2.out HZ2.out (Nat.le_refl _) (.int .i64 0) (.int .u8 0) (.string ⟨#[]⟩) (.int .i64 0) (.slice none 0 0)
   exact ⟨k1, .inr ⟨h1, by rw [<- h2, hd]; rfl⟩⟩
  have HP2 := HPP.out
  unfold put5c at HP2
  have HP3 := Lib.hid HP2
  clear HP2 HPP HK2 HZ2 HL2 HVC HR2 h1 h2 hd hrx
  go_wp2
  refine bodyPost_ret (v := .tuple #[.agg #[.int .i64 0, .int .u8 0, .string ⟨#[]⟩, .int .i64 0, .slice none 0 0], .int .i64 (d : Int), .bool false]) ?_ rfl ?_
  ·simp [results, Try.results48, go_sem]
   go_simp
   try rfl
  ·exact HP3.out
structure PkqS (m : Nat) (A : Option Addr) (l : List Nd) (c : Nat) (u : Value) (W V : Wd) (rb : Nat) (w0 w : World) : Prop where
 rk : Rk m l V w0.heap.size [] w0 w
 rd : Rdr rb A l c u W V m w
 z : Blk w w0.heap.size #[.int .i64 0, .int .u8 0, .string ⟨#[]⟩, .int .i64 0, .slice none 0 0] 32
theorem PkqS.later {m : Nat} {A : Option Addr} {l : List Nd} {c : Nat} {u : Value} {W V : Wd} {rb : Nat} {w0 w w' : World} (h : PkqS m A l c u W V rb w0 w) (hb : Below w.heap.size w w') : PkqS m A l c u W V rb w0 w' := ⟨h.rk.later h.rk.size hb, h.rd.later hb, h.z.later hb⟩
theorem PkqS.call {m : Nat} {A : Option Addr} {l : List Nd} {c : Nat} {u : Value} {W V : Wd} {rb : Nat} {w0 w w' : World} (h : PkqS m A l c u W V rb w0 w) (hk : Rk m l V w.heap.size [] w w') : PkqS m A l c u W V rb w0 w' := ⟨h.rk.call h.rk.size hk, h.rd.rk hk, (hk.kc ⟨_, h.rd.kept⟩).block _ h.z.lt _ _ h.z⟩
def PkqL (m : Nat) (A : Option Addr) (l : List Nd) (c : Nat) (u : Value) (W V : Wd) (rb : Nat) (EA EB : List Vl) (r : Nat) (w0 : World) (x y : Value) (w : World) : Prop :=
 ∃ q rq : Nat, q <= 2 /\ y = .int .i64 (q : Int) /\ x = .int .i64 (rq : Int) /\ rq + (if q = 0 then 0 else if q = 1 then EA.length else EA.length + EB.length) = r /\ PkqS m A l c u W V rb w0 w
theorem one_kid {p : Nat -> Prop} {w5 w7 : World} {x : VCl} {g : Nat} {k : Int} {q : Int} (hb : Below w5.heap.size w5 w7) (hx : VOk p w5 x) (hg : Blk w7 g x.cells 32) (hp : p g) : VOk p w7 ⟨⟨k, 0, [], q, Vs.of [x.v]⟩, some ⟨g, 0, none⟩, 1⟩ := by
 refine ⟨by show (Vs.of [x.v]).len <= 1; rw [Vs.of_len]; exact Nat.le_refl _, ?_⟩
 exact VRp.of (l := [x]) hg.lt hp (fun y hy => by
  rw [List.mem_singleton.1 hy]; exact ⟨hx.1, hx.2.later hb⟩) fun k hk j hj => by
  have hk : k < 1 := hk
  obtain rfl : k = 0 := by omega
  rw [hg.cell, show 0 + (0 + 0) * 5 + j = j by omega]; rfl
structure PkxS (m : Nat) (A : Option Addr) (l : List Nd) (c : Nat) (u : Value) (W V : Wd) (rb : Nat) (w0 : World) (x : VCl) (w5 : World) (bx : Nat) (w : World) : Prop where
 i : PkqS m A l c u W V rb w0 w
 bx : Blk w bx x.cells 32
 bel : Below w5.heap.size w5 w
theorem PkxS.later {m : Nat} {A : Option Addr} {l : List Nd} {c : Nat} {u : Value} {W V : Wd} {rb : Nat} {w0 : World} {x : VCl} {w5 : World} {bx : Nat} {w w' : World} (h : PkxS m A l c u W V rb w0 x w5 bx w) (hb : Below w.heap.size w w') : PkxS m A l c u W V rb w0 x w5 bx w' := ⟨h.i.later hb, h.bx.later hb, h.bel.trans (hb.mono h.bel.size)⟩
def KidR (x : VCl) (B : Nat) (v : Value) (w : World) : Prop := ∃ g, v = .slice (some ⟨g, 0, none⟩) 1 1 /\ Blk w g x.cells 32 /\ B <= g
theorem KidR.later (x : VCl) (B : Nat) (v : Value) (w w' : World) (h : KidR x B v w) (hb : Below w.heap.size w w') : KidR x B v w' := by
 obtain ⟨g, h1, h2, h3⟩ := h
 exact ⟨g, h1, h2.later hb, h3⟩
def KidV (x : VCl) (B : Nat) (k q : Int) (v : Value) (w : World) : Prop := ∃ g, v = .agg #[.int .i64 k, .int .u8 0, .string ⟨#[]⟩, .int .i64 q, .slice (some ⟨g, 0, none⟩) 1 1] /\ Blk w g x.cells 32 /\ B <= g
theorem KidV.later (x : VCl) (B : Nat) (k q : Int) (v : Value) (w w' : World) (h : KidV x B k q v w) (hb : Below w.heap.size w w') : KidV x B k q v w' := by
 obtain ⟨g, h1, h2, h3⟩ := h
 exact ⟨g, h1, h2.later hb, h3⟩
theorem pick_or {l : List Nd} {c m ba oa : Nat} {V : Wd} {i : Nat} (hF : Form l) (hi : i < l.length) (hk5 : (atN l i).kind = 5) (hn : V.length <= 900) (hA : PicC (some ⟨ba, oa, none⟩) l c m V (atN l i).a.toNat) (hB : PicC (some ⟨ba, oa, none⟩) l c m V (atN l i).b.toNat) : PicC (some ⟨ba, oa, none⟩) l c m V i := by
 intro rb u W a b r w hr hW hab hb hrk
 have hEN := EN_k5 (u := sgW W a b) hF hi hk5
 have hab2 : (((atN l i).a.toNat : Nat) : Int) = (atN l i).a /\ (((atN l i).b.toNat : Nat) : Int) = (atN l i).b := by
  have hcs := (hF.2.1 i hi).cs rfl
  cases hcs with
  | leaf h1 hf => unfold leafK at h1; omega
  | one h1 hi0 ha hb h7 hr hcl hf => omega
  | two h1 hi0 hb ha hf0 hl hcl hf => omega
 obtain ⟨na, hna⟩ : ∃ na, (atN l i).a.toNat = na := ⟨_, rfl⟩
 obtain ⟨nb, hnb⟩ : ∃ nb, (atN l i).b.toNat = nb := ⟨_, rfl⟩
 obtain ⟨haz, hbz⟩ := hab2
 rw [hna] at haz hA hEN
 rw [hnb] at hbz hB hEN
 have hb1 := (Below.refl w.heap.size w).alloc (Nat.le_refl _) (.cells #[.int .i64 0, .int .u8 0, .string ⟨#[]⟩, .int .i64 0, .slice none 0 0] 32)
 have HS1 : Hid (PkqS m (some ⟨ba, oa, none⟩) l c u W V rb w (w.alloc (.cells #[.int .i64 0, .int .u8 0, .string ⟨#[]⟩, .int .i64 0, .slice none 0 0] 32))) := ⟨.of_below hb1, hr.later hb1, Blk.new w _ _⟩
 have HI := Lib.hid hi
 have HCA := Lib.hid (fun (w' : World) (rq : Nat) (h1 : rq <= 1) (h : Rdr rb (some ⟨ba, oa, none⟩) l c u W V m w') => hA rb u W a b rq w' h hW hab hb h1)
 have HCB := Lib.hid (fun (w' : World) (rq : Nat) (h1 : rq <= 1) (h : Rdr rb (some ⟨ba, oa, none⟩) l c u W V m w') => hB rb u W a b rq w' h hW hab hb h1)
 have HEN := Lib.hid hEN
 have HAT : Hid (∀ w', NRow w' (some ⟨ba, oa, none⟩) l -> At10 w' ba (oa + i * 10) (atN l i)) := fun w' h => h.at hi rfl
 unfold At10 at HAT
 have hil : (i : Int) < (l.length : Int) := by omega
 have hi0 : ¬ (i : Int) < 0 := by omega
 have hkz : ((atN l i).kind != 5) = false := by simpa using hk5
 clear hr hW hb1 hA hB hk5 hF hi hEN hna hnb
 generalize (atN l i).kind = kk at *
 generalize (atN l i).a = ia at *
 generalize (atN l i).b = ib at *
 subst haz
 subst hbz
 generalize EN l na (sgW W a b) = EA at *
 generalize EN l nb (sgW W a b) = EB at *
 go_enter Try.func48, Try.ntmps48
 go_upto_region 1 with (fail)
 generalize w.alloc (.cells #[.int .i64 0, .int .u8 0, .string ⟨#[]⟩, .int .i64 0, .slice none 0 0] 32) = w1 at *
 obtain ⟨g0, -⟩ := HAT.out _ HS1.out.rd.rd.row
 have k0 := HS1.out.rd.rd.blk.cell 0
 simp at k0
 go_upto_region 7 with (fail)
 clear g0 k0
 refine wp_region_stable (S := (PkqS m (some ⟨ba, oa, none⟩) l c u W V rb w)) (hSt := fun _ _ h hb => h.later hb) (plan := [[(13, none)], [(49, some 0)], [(50, some 1)], [(51, some 2)], [(13, none)], [(53, some 4)], [(54, some 5)], [(55, some 6)], [(52, some 3), (56, some 7)], []]) (by kernel_rfl) (by kernel_rfl) (by kernel_rfl) ?hS ?_
 rotate_left
 iterate 10 first
  | (refine chain_skip (by rfl) (by rfl) ?_)
  | (apply chain_want (by rfl)
     ·intro act wx hS hr
      simp at hr
      obtain ⟨g0, g1, g2, -⟩ := HAT.out _ hS.rd.rd.row
      go_simp
      (try go_ints)
      first
       | exact Done.same
    )
 show ∀ w', _ -> _
 intro wz hz
 simp [Act.put]
 case hS => exact HS1.out
 have HZ := Lib.hid hz
 clear hz HS1
 go_wp2
 go_loopw [4, 58] (PkqL m (some ⟨ba, oa, none⟩) l c u W V rb EA EB r w) (fun _ y _ => 3 - (intOf y).toNat)
 case atStart => exact ⟨0, r, by omega, rfl, rfl, rfl, HZ.out⟩
 case round =>
  obtain ⟨q, rq, hq, rfl, rfl, hsum, hs⟩ := hrel
  have HSW := Lib.hid hs
  clear hs
  have hq3 : q = 0 \/ q = 1 \/ q = 2 := by omega
  rcases hq3 with rfl | rfl | rfl
  ·rw [if_pos rfl] at hsum
   have hix : ∀ w, (Instr.index 105 (.agg #[.int .i64 (na : Int), .int .i64 (nb : Int)]) (.int .i64 0)).run Try.prog w = .ok (.int .i64 (na : Int)) w := fun w => by kernel_rfl
   have HCC := Lib.hid (HCA.out wr rq (by omega) HSW.out.rd)
   go_wp2_with fail
   refine HCC.out.mono ?_; rintro e w5 ⟨hk5, ⟨x5, v, hv, hxv, rfl, hok⟩ | ⟨hle, rfl⟩⟩
   ·have HWK : Hid (wr.heap.size <= w5.heap.size) := hk5.size
    have HNV : Hid ((EN l i (sgW W a b))[r]? = some ⟨5, 0, [], 0, Vs.of [v]⟩) := by
     unfold Hid; rw [HEN.out, List.getElem?_append_left (by rw [List.length_map]; have := (List.getElem?_eq_some_iff.1 hv).1; omega), List.getElem?_map, show r = rq by omega, hv]; rfl
    clear hv HCC hix
    have HXV := Lib.hid hxv
    have HOK := Lib.hid hok
    have HS5 := Lib.hid (HSW.out.call hk5)
    clear hk5 hxv hok
    obtain ⟨⟨xk, xb, xt, xp, xs⟩, xB, xc⟩ := x5
    simp only [VCl.cells, vlC]
    have hb6 := (Below.refl w5.heap.size w5).alloc (Nat.le_refl _) (.cells #[.int .i64 xk, .int .u8 ((xb.toNat : Nat) : Int), .string (bs xt), .int .i64 xp, .slice xB xs.len xc] 32)
    have HS6 : Hid (PkxS m (some ⟨ba, oa, none⟩) l c u W V rb w ⟨⟨xk, xb, xt, xp, xs⟩, xB, xc⟩ w5 w5.heap.size (w5.alloc (.cells #[.int .i64 xk, .int .u8 ((xb.toNat : Nat) : Int), .string (bs xt), .int .i64 xp, .slice xB xs.len xc] 32))) := ⟨HS5.out.later hb6, Blk.new w5 _ _, hb6⟩
    have HW5 : Hid (w.heap.size <= wr.heap.size /\ wr.heap.size <= w5.heap.size /\ w.heap.size < wr.heap.size) := ⟨HSW.out.rk.size, HWK.out, HSW.out.z.lt⟩
    clear hb6 HS5 HSW
    go_upto_region 12 with (fail)
    generalize w5.alloc (.cells #[.int .i64 xk, .int .u8 ((xb.toNat : Nat) : Int), .string (bs xt), .int .i64 xp, .slice xB xs.len xc] 32) = w6 at HS6 ⊢
    refine wp_region_stable_tail 4 (S := (PkxS m (some ⟨ba, oa, none⟩) l c u W V rb w ⟨⟨xk, xb, xt, xp, xs⟩, xB, xc⟩ w5 w5.heap.size)) (hSt := fun _ _ h hb => h.later hb) (plan := [[(15, none)], [(17, none)], [(74, some 1)], [(73, some 0), (75, some 2)]]) rfl rfl (by kernel_rfl) (by kernel_rfl) (by kernel_rfl) (by kernel_rfl) ?hS ?_
    rotate_left
    iterate 2 first
     | (refine chain_skip (by rfl) (by rfl) ?_)
     | (apply chain_want (by rfl)
        ·intro act wx hS hr
         simp at hr
         have x0 := hS.bx.cell 0
         have x1 := hS.bx.cell 1
         have x2 := hS.bx.cell 2
         have x3 := hS.bx.cell 3
         have x4 := hS.bx.cell 4
         simp [VCl.cells, vlC] at x0 x1 x2 x3 x4
         go_simp
         (try go_ints)
         first
          | exact Done.same (v := .agg #[.int .i64 xk, .int .u8 ((xb.toNat : Nat) : Int), .string (bs xt), .int .i64 xp, .slice xB xs.len xc])
          | exact Done.same
       )
    (refine chain_rel (KidR ⟨⟨xk, xb, xt, xp, xs⟩, xB, xc⟩ w5.heap.size) (KidR.later ⟨⟨xk, xb, xt, xp, xs⟩, xB, xc⟩ w5.heap.size) (by rfl) ?_ ?_
     ·intro act wx hS hr
      simp at hr
      have x0 := hS.bx.cell 0
      have x1 := hS.bx.cell 1
      have x2 := hS.bx.cell 2
      have x3 := hS.bx.cell 3
      have x4 := hS.bx.cell 4
      simp [VCl.cells, vlC] at x0 x1 x2 x3 x4
      all_goals go_simp
      exact Done.rel ((Below.refl _ _).alloc (Nat.le_refl _) _) ⟨_, rfl, Blk.new _ _ _, hS.bel.size⟩
    )
    (refine chain_rel (KidV ⟨⟨xk, xb, xt, xp, xs⟩, xB, xc⟩ w5.heap.size 5 0) (KidV.later ⟨⟨xk, xb, xt, xp, xs⟩, xB, xc⟩ w5.heap.size 5 0) (by rfl) ?_ ?_
     ·intro act wx hS hr
      simp at hr
      have x0 := hS.bx.cell 0
      have x1 := hS.bx.cell 1
      have x2 := hS.bx.cell 2
      have x3 := hS.bx.cell 3
      have x4 := hS.bx.cell 4
      simp [VCl.cells, vlC] at x0 x1 x2 x3 x4
      obtain ⟨hr1, v, hr2, g, rfl, hk, hg⟩ := hr
      all_goals go_simp
      try go_simp; (try simp only [hr1, hr2, Option.getD_some]); (try go_simp); exact Done.rel (Below.refl _ _) ⟨g, rfl, hk, hg⟩
    )
    show ∀ w', _ -> _
    intro w8 hw8
    simp [Act.put]
    case hS => exact HS6.out
    intro v2 _ v3 hv3
    obtain ⟨g7, rfl, hk7, hg7⟩ := hv3
    have HS8 := Lib.hid hw8
    clear hw8
    have HPP : Hid (PikP m l V (EN l i (sgW W a b)) r w (.returned (.tuple #[.agg #[.int .i64 5, .int .u8 0, .string ⟨#[]⟩, .int .i64 0, .slice (some ⟨g7, 0, none⟩) 1 1], .int .i64 0, .bool true])) (put5c w8 w.heap.size (.int .i64 5) (.int .u8 0) (.string ⟨#[]⟩) (.int .i64 0) (.slice (some ⟨g7, 0, none⟩) 1 1))) := by
     obtain ⟨k1, k2⟩ := put5c_rk HS8.out.i.rk HS8.out.i.z (Nat.le_refl _) (.int .i64 5) (.int .u8 0) (.string ⟨#[]⟩) (.int .i64 0) (.slice (some ⟨g7, 0, none⟩) 1 1)
     have h5 := HW5.out
     have hok1 := one_kid (k := 5) (q := 0) (p := fun b => w.heap.size <= b /\ b ≠ w.heap.size) HS8.out.bel ⟨HOK.out.1, HOK.out.2.mono fun b _ hb => ⟨by omega, by omega⟩⟩ hk7 ⟨by omega, by omega⟩
     exact ⟨k1, .inl ⟨_, _, HNV.out, by rw [<- HXV.out], rfl, VOk.turn hok1 (by rw [put5c_size]; exact Nat.le_refl _) fun b hb => put5c_other hb⟩⟩
    have z0 := HS8.out.i.z.cell 0
    have z1 := HS8.out.i.z.cell 1
    have z2 := HS8.out.i.z.cell 2
    have z3 := HS8.out.i.z.cell 3
    have z4 := HS8.out.i.z.cell 4
    simp at z0 z1 z2 z3 z4
    have f0 := HS8.out.i.z.frozen 0
    have f1 := HS8.out.i.z.frozen 1
    have f2 := HS8.out.i.z.frozen 2
    have f3 := HS8.out.i.z.frozen 3
    have f4 := HS8.out.i.z.frozen 4
    have HP2 := HPP.out
    unfold put5c at HP2
    have HP3 := Lib.hid HP2
    clear HP2 HPP HOK HXV HS6 HS8 HW5 HNV hk7 hg7
    go_wp2
    refine bodyPost_ret (v := .tuple #[.agg #[.int .i64 5, .int .u8 0, .string ⟨#[]⟩, .int .i64 0, .slice (some ⟨g7, 0, none⟩) 1 1], .int .i64 0, .bool true]) ?_ rfl ?_
    ·simp [results, Try.results48, go_sem]
     go_simp
     try rfl
    ·exact HP3.out
   ·
    have HS5 := Lib.hid (HSW.out.call hk5)
    have hz9 : vcl0.cells = #[.int .i64 0, .int .u8 0, .string ⟨#[]⟩, .int .i64 0, .slice none 0 0] := rfl
    rw [hz9]
    have HS6 := Lib.hid (HS5.out.later ((Below.refl _ _).alloc (Nat.le_refl _) (.cells #[.int .i64 0, .int .u8 0, .string ⟨#[]⟩, .int .i64 0, .slice none 0 0] 32)))
    clear hz9 hk5 HS5 HSW HCC hix
    go_wp2
    go_roundw
    case rel => exact ⟨1, rq - EA.length, by omega, by go_num, rfl, by simp; omega, HS6.out⟩
    case measure => simp [intOf]
  ·rw [if_neg (by decide), if_pos rfl] at hsum
   have hix : ∀ w, (Instr.index 105 (.agg #[.int .i64 (na : Int), .int .i64 (nb : Int)]) (.int .i64 1)).run Try.prog w = .ok (.int .i64 (nb : Int)) w := fun w => by kernel_rfl
   have HCC := Lib.hid (HCB.out wr rq (by omega) HSW.out.rd)
   go_wp2_with fail
   refine HCC.out.mono ?_; rintro e w5 ⟨hk5, ⟨x5, v, hv, hxv, rfl, hok⟩ | ⟨hle, rfl⟩⟩
   ·have HWK : Hid (wr.heap.size <= w5.heap.size) := hk5.size
    have HNV : Hid ((EN l i (sgW W a b))[r]? = some ⟨5, 0, [], 1, Vs.of [v]⟩) := by
     unfold Hid; rw [HEN.out, List.getElem?_append_right (by rw [List.length_map]; omega), List.length_map, List.getElem?_map, show r - EA.length = rq by omega, hv]; rfl
    clear hv HCC hix
    have HXV := Lib.hid hxv
    have HOK := Lib.hid hok
    have HS5 := Lib.hid (HSW.out.call hk5)
    clear hk5 hxv hok
    obtain ⟨⟨xk, xb, xt, xp, xs⟩, xB, xc⟩ := x5
    simp only [VCl.cells, vlC]
    have hb6 := (Below.refl w5.heap.size w5).alloc (Nat.le_refl _) (.cells #[.int .i64 xk, .int .u8 ((xb.toNat : Nat) : Int), .string (bs xt), .int .i64 xp, .slice xB xs.len xc] 32)
    have HS6 : Hid (PkxS m (some ⟨ba, oa, none⟩) l c u W V rb w ⟨⟨xk, xb, xt, xp, xs⟩, xB, xc⟩ w5 w5.heap.size (w5.alloc (.cells #[.int .i64 xk, .int .u8 ((xb.toNat : Nat) : Int), .string (bs xt), .int .i64 xp, .slice xB xs.len xc] 32))) := ⟨HS5.out.later hb6, Blk.new w5 _ _, hb6⟩
    have HW5 : Hid (w.heap.size <= wr.heap.size /\ wr.heap.size <= w5.heap.size /\ w.heap.size < wr.heap.size) := ⟨HSW.out.rk.size, HWK.out, HSW.out.z.lt⟩
    clear hb6 HS5 HSW
    go_upto_region 12 with (fail)
    generalize w5.alloc (.cells #[.int .i64 xk, .int .u8 ((xb.toNat : Nat) : Int), .string (bs xt), .int .i64 xp, .slice xB xs.len xc] 32) = w6 at HS6 ⊢
    refine wp_region_stable_tail 4 (S := (PkxS m (some ⟨ba, oa, none⟩) l c u W V rb w ⟨⟨xk, xb, xt, xp, xs⟩, xB, xc⟩ w5 w5.heap.size)) (hSt := fun _ _ h hb => h.later hb) (plan := [[(15, none)], [(17, none)], [(74, some 1)], [(73, some 0), (75, some 2)]]) rfl rfl (by kernel_rfl) (by kernel_rfl) (by kernel_rfl) (by kernel_rfl) ?hS ?_
    rotate_left
    iterate 2 first
     | (refine chain_skip (by rfl) (by rfl) ?_)
     | (apply chain_want (by rfl)
        ·intro act wx hS hr
         simp at hr
         have x0 := hS.bx.cell 0
         have x1 := hS.bx.cell 1
         have x2 := hS.bx.cell 2
         have x3 := hS.bx.cell 3
         have x4 := hS.bx.cell 4
         simp [VCl.cells, vlC] at x0 x1 x2 x3 x4
         go_simp
         (try go_ints)
         first
          | exact Done.same (v := .agg #[.int .i64 xk, .int .u8 ((xb.toNat : Nat) : Int), .string (bs xt), .int .i64 xp, .slice xB xs.len xc])
          | exact Done.same
       )
    (refine chain_rel (KidR ⟨⟨xk, xb, xt, xp, xs⟩, xB, xc⟩ w5.heap.size) (KidR.later ⟨⟨xk, xb, xt, xp, xs⟩, xB, xc⟩ w5.heap.size) (by rfl) ?_ ?_
     ·intro act wx hS hr
      simp at hr
      have x0 := hS.bx.cell 0
      have x1 := hS.bx.cell 1
      have x2 := hS.bx.cell 2
      have x3 := hS.bx.cell 3
      have x4 := hS.bx.cell 4
      simp [VCl.cells, vlC] at x0 x1 x2 x3 x4
      all_goals go_simp
      exact Done.rel ((Below.refl _ _).alloc (Nat.le_refl _) _) ⟨_, rfl, Blk.new _ _ _, hS.bel.size⟩
    )
    (refine chain_rel (KidV ⟨⟨xk, xb, xt, xp, xs⟩, xB, xc⟩ w5.heap.size 5 1) (KidV.later ⟨⟨xk, xb, xt, xp, xs⟩, xB, xc⟩ w5.heap.size 5 1) (by rfl) ?_ ?_
     ·intro act wx hS hr
      simp at hr
      have x0 := hS.bx.cell 0
      have x1 := hS.bx.cell 1
      have x2 := hS.bx.cell 2
      have x3 := hS.bx.cell 3
      have x4 := hS.bx.cell 4
      simp [VCl.cells, vlC] at x0 x1 x2 x3 x4
      obtain ⟨hr1, v, hr2, g, rfl, hk, hg⟩ := hr
      all_goals go_simp
      try go_simp; (try simp only [hr1, hr2, Option.getD_some]); (try go_simp); exact Done.rel (Below.refl _ _) ⟨g, rfl, hk, hg⟩
    )
    show ∀ w', _ -> _
    intro w8 hw8
    simp [Act.put]
    case hS => exact HS6.out
    intro v2 _ v3 hv3
    obtain ⟨g7, rfl, hk7, hg7⟩ := hv3
    have HS8 := Lib.hid hw8
    clear hw8
    have HPP : Hid (PikP m l V (EN l i (sgW W a b)) r w (.returned (.tuple #[.agg #[.int .i64 5, .int .u8 0, .string ⟨#[]⟩, .int .i64 1, .slice (some ⟨g7, 0, none⟩) 1 1], .int .i64 0, .bool true])) (put5c w8 w.heap.size (.int .i64 5) (.int .u8 0) (.string ⟨#[]⟩) (.int .i64 1) (.slice (some ⟨g7, 0, none⟩) 1 1))) := by
     obtain ⟨k1, k2⟩ := put5c_rk HS8.out.i.rk HS8.out.i.z (Nat.le_refl _) (.int .i64 5) (.int .u8 0) (.string ⟨#[]⟩) (.int .i64 1) (.slice (some ⟨g7, 0, none⟩) 1 1)
     have h5 := HW5.out
     have hok1 := one_kid (k := 5) (q := 1) (p := fun b => w.heap.size <= b /\ b ≠ w.heap.size) HS8.out.bel ⟨HOK.out.1, HOK.out.2.mono fun b _ hb => ⟨by omega, by omega⟩⟩ hk7 ⟨by omega, by omega⟩
     exact ⟨k1, .inl ⟨_, _, HNV.out, by rw [<- HXV.out], rfl, VOk.turn hok1 (by rw [put5c_size]; exact Nat.le_refl _) fun b hb => put5c_other hb⟩⟩
    have z0 := HS8.out.i.z.cell 0
    have z1 := HS8.out.i.z.cell 1
    have z2 := HS8.out.i.z.cell 2
    have z3 := HS8.out.i.z.cell 3
    have z4 := HS8.out.i.z.cell 4
    simp at z0 z1 z2 z3 z4
    have f0 := HS8.out.i.z.frozen 0
    have f1 := HS8.out.i.z.frozen 1
    have f2 := HS8.out.i.z.frozen 2
    have f3 := HS8.out.i.z.frozen 3
    have f4 := HS8.out.i.z.frozen 4
    have HP2 := HPP.out
    unfold put5c at HP2
    have HP3 := Lib.hid HP2
    clear HP2 HPP HOK HXV HS6 HS8 HW5 HNV hk7 hg7
    go_wp2
    refine bodyPost_ret (v := .tuple #[.agg #[.int .i64 5, .int .u8 0, .string ⟨#[]⟩, .int .i64 1, .slice (some ⟨g7, 0, none⟩) 1 1], .int .i64 0, .bool true]) ?_ rfl ?_
    ·simp [results, Try.results48, go_sem]
     go_simp
     try rfl
    ·exact HP3.out
   ·
    have HS5 := Lib.hid (HSW.out.call hk5)
    have hz9 : vcl0.cells = #[.int .i64 0, .int .u8 0, .string ⟨#[]⟩, .int .i64 0, .slice none 0 0] := rfl
    rw [hz9]
    have HS6 := Lib.hid (HS5.out.later ((Below.refl _ _).alloc (Nat.le_refl _) (.cells #[.int .i64 0, .int .u8 0, .string ⟨#[]⟩, .int .i64 0, .slice none 0 0] 32)))
    clear hz9 hk5 HS5 HSW HCC hix
    go_wp2
    go_roundw
    case rel => exact ⟨2, rq - EB.length, by omega, by go_num, rfl, by simp; omega, HS6.out⟩
    case measure => simp [intOf]
  ·rw [if_neg (by decide), if_neg (by decide)] at hsum
   have HPP : Hid (PikP m l V (EN l i (sgW W a b)) r w (.returned (.tuple #[.agg #[.int .i64 0, .int .u8 0, .string ⟨#[]⟩, .int .i64 0, .slice none 0 0], .int .i64 (rq : Int), .bool false])) (put5c wr w.heap.size (.int .i64 0) (.int .u8 0) (.string ⟨#[]⟩) (.int .i64 0) (.slice none 0 0))) := by
    obtain ⟨k1, k2⟩ := put5c_rk HSW.out.rk HSW.out.z (Nat.le_refl _) (.int .i64 0) (.int .u8 0) (.string ⟨#[]⟩) (.int .i64 0) (.slice none 0 0)
    have hln : (EN l i (sgW W a b)).length = EA.length + EB.length := by rw [HEN.out, List.length_append, List.length_map, List.length_map]
    exact ⟨k1, .inr ⟨by rw [hln]; omega, by rw [hln, show r - (EA.length + EB.length) = rq by omega]; rfl⟩⟩
   have z0 := HSW.out.z.cell 0
   have z1 := HSW.out.z.cell 1
   have z2 := HSW.out.z.cell 2
   have z3 := HSW.out.z.cell 3
   have z4 := HSW.out.z.cell 4
   simp at z0 z1 z2 z3 z4
   have f0 := HSW.out.z.frozen 0
   have f1 := HSW.out.z.frozen 1
   have f2 := HSW.out.z.frozen 2
   have f3 := HSW.out.z.frozen 3
   have f4 := HSW.out.z.frozen 4
   have HP2 := HPP.out
   unfold put5c at HP2
   have HP3 := Lib.hid HP2
   clear HP2 HPP HSW hsum
   go_wp2
   refine bodyPost_ret (v := .tuple #[.agg #[.int .i64 0, .int .u8 0, .string ⟨#[]⟩, .int .i64 0, .slice none 0 0], .int .i64 (rq : Int), .bool false]) ?_ rfl ?_
   ·simp [results, Try.results48, go_sem]
    go_simp
    try rfl
   ·exact HP3.out
end Go.Proofs.Ytpbbokdmoaadfaa
