/- Counting: Values. Walked. -/
import Derived.Test.YtpbbokdmoaadfaaM36
import Derived.Test.YtpbbokdmoaadfaaM26
import Derived.Test.YtpbbokdmoaadfaaM21
import Derived.Test.YtpbbokdmoaadfaaM35
import Derived.Test.YtpbbokdmoaadfaaM03
import Derived.RangeFuncNested
import Derived.RangeFuncBound
import Derived.RangeFuncCalls
import Derived.RangeFuncLeaves
import Derived.RangeFuncBox
import Derived.Shelf.Abstract
import Derived.WalkKit
import Derived.OwnWalkIn
import Derived.TacticsInMore
import Derived.LoopNIn
import Derived.LoopIn
namespace Go.Proofs.Ytpbbokdmoaadfaa
set_option maxHeartbeats 64000000
set_option maxRecDepth 1000000
set_option linter.all false
open Go Go.RowKit
theorem wpList_append_v1 {w : World} {ops : Array Oper} {rest : List Oper} {o : Oper} {a : Act} {Q : Exit -> Act -> World -> Prop} (hgd : o.guard = none) (s x : Operand)
 (ho : o.op = .call { callee := .builtin .append, args := #[s, x], argTypes := #[30, 30] })
 (base : Nat) (v : Value) (l : List VCl) (hs : a.eval s = v) (hown : OwnVs w base v l)
 (b : Nat) (p : VCl) (hx : a.eval x = .slice (some ⟨b, 0, none⟩) 1 1) (hnew : Blk w b p.cells 32) (hlen : l.length < 1073741824) (hbase : base <= w.heap.size)
 (h : ∀ v' w', OwnVs w' base v' (l ++ [p]) -> w.grownBy w' v.ownBlock -> (v'.ownBlock = v.ownBlock \/ ∃ g', v'.ownBlock = some g' /\ w.heap.size <= g') -> wpList Try.prog ops Q rest (a.put o.dst v') w') : wpList Try.prog ops Q (o :: rest) a w :=
 wpList_plain hgd fun K hK => wp_append_v1 s x ho base v l hs hown b p hx hnew hlen hbase fun v' w' h1 h2 h3 => hK _ _ (h v' w' h1 h2 h3)
structure VuS (m : Nat) (A : Option Addr) (l : List Nd) (c : Nat) (u : Value) (W : Wd) (rb : Nat) (tv : Value) (L : List VCl) (w0 w : World) : Prop where
 rk : Rk m l W w0.heap.size [] w0 w
 rd : Rdr rb A l c u W W m w
 rd0 : Rdr rb A l c u W W m w0
 own : OwnVs w w0.heap.size tv L
 kids : CKp (fun b => w0.heap.size <= b /\ tv.ownBlock ≠ some b) w L
theorem VuS.call {m : Nat} {A : Option Addr} {l : List Nd} {c : Nat} {u : Value} {W : Wd} {rb : Nat} {tv : Value} {L : List VCl} {w0 w w' : World} (h : VuS m A l c u W rb tv L w0 w) (hk : Rk m l W w.heap.size [] w w') : VuS m A l c u W rb tv L w0 w' := by
 have kc := hk.kc ⟨_, h.rd.kept⟩
 refine ⟨h.rk.call h.rk.size hk, h.rd.rk hk, h.rd0, ?_, fun x hx => ⟨(h.kids x hx).1, (h.kids x hx).2.kc kc⟩⟩
 obtain ⟨h0, ⟨hv, hn⟩ | ⟨g, cap, cur, hv, hb, hg, hr⟩⟩ := h.own
 ·exact ⟨h0, .inl ⟨hv, hn⟩⟩
 ·have hg' : Blk w g cur 32 := hg
  exact ⟨h0, .inr ⟨g, cap, cur, hv, hb, kc.block g hg'.lt _ _ hg', hr⟩⟩
theorem VuS.later {m : Nat} {A : Option Addr} {l : List Nd} {c : Nat} {u : Value} {W : Wd} {rb : Nat} {tv : Value} {L : List VCl} {w0 w w' : World} (h : VuS m A l c u W rb tv L w0 w) (hb : Below w.heap.size w w') : VuS m A l c u W rb tv L w0 w' := h.call (.of_below hb)
theorem VuS.snoc {m : Nat} {A : Option Addr} {l : List Nd} {c : Nat} {u : Value} {W : Wd} {rb : Nat} {tv tv' : Value} {L : List VCl} {x : VCl} {w0 w w' : World} (h : VuS m A l c u W rb tv L w0 w) (hx : VOk (fun b => w0.heap.size <= b /\ tv.ownBlock ≠ some b) w x)
 (h1 : OwnVs w' w0.heap.size tv' (L ++ [x])) (h2 : w.grownBy w' tv.ownBlock) (h3 : tv'.ownBlock = tv.ownBlock \/ ∃ g', tv'.ownBlock = some g' /\ w.heap.size <= g') : VuS m A l c u W rb tv' (L ++ [x]) w0 w' := by
 have hrk : Rk m l W w0.heap.size [] w0 w' := h.rk.growT h.rk.size h.own (by decide) h2
 refine ⟨hrk, h.rd0.at_ (Nat.le_refl _) hrk, h.rd0, h1, fun y hy => ?_⟩
 have hy' : VOk (fun b => w0.heap.size <= b /\ tv.ownBlock ≠ some b) w y := by
  rcases List.mem_append.1 hy with hy | hy
  ·exact h.kids y hy
  ·rw [List.mem_singleton.1 hy]; exact hx
 refine ⟨hy'.1, (VRp.blocks (w' := w') (p := fun b => (w0.heap.size <= b /\ tv.ownBlock ≠ some b) /\ b < w.heap.size) ?_ h2.size fun b hb hlt => h2.block b hlt fun e => hb.1.2 e.symm).mono fun b _ hb => ⟨hb.1.1, fun e => ?_⟩⟩
 ·exact hy'.2.mono fun b hlt hb => ⟨hb, hlt⟩
 ·rcases h3 with h3 | ⟨g', h3, h4⟩
  ·exact hb.1.2 (by rw [<- h3]; exact e)
  ·rw [h3] at e; cases e
   have := hb.2; omega
theorem VuS.own_lt {m : Nat} {A : Option Addr} {l : List Nd} {c : Nat} {u : Value} {W : Wd} {rb : Nat} {tv : Value} {L : List VCl} {w0 w : World} (h : VuS m A l c u W rb tv L w0 w) {b : Nat} (hb : w.heap.size <= b) : tv.ownBlock ≠ some b := fun e => by
 obtain ⟨-, ⟨hv, -⟩ | ⟨gt, cp, cu, hv, -, hgg, -⟩⟩ := h.own
 ·rw [hv] at e; cases e
 ·rw [hv] at e
  have e : gt = b := Option.some.inj e
  have := Blk.lt (show Blk w gt cu 32 from hgg)
  omega
theorem VuS.nw {m : Nat} {A : Option Addr} {l : List Nd} {c : Nat} {u : Value} {W : Wd} {rb : Nat} {tv : Value} {L : List VCl} {w0 w : World} (h : VuS m A l c u W rb tv L w0 w) : NwV w0.heap.size w tv (L.map (·.v)) := by
 have hlen : (L.map (·.v)).length = L.length := List.length_map ..
 by_cases h0 : 0 < L.length
 ·obtain ⟨g, cap, cur, hv, hb, hk, hc, -⟩ := h.own.blk h0
  obtain ⟨a, cap', hv2, hc2, hrow⟩ := h.own.row
  rw [hv] at hv2; cases hv2
  refine ⟨_, _, by rw [hlen]; exact hv, by rw [hlen]; exact hc, CKp.vrp (fun x hx => ⟨(h.kids x hx).1, (h.kids x hx).2.mono fun b _ hb => hb.1⟩) hrow fun b o e _ => by cases e; exact hb⟩
 ·obtain rfl : L = [] := List.eq_nil_of_length_eq_zero (by omega)
  obtain ⟨a, cap', hv2, hc2, hrow⟩ := h.own.row
  exact ⟨a, cap', hv2, hc2, trivial⟩
def RepA (l : List Nd) (V : Wd) : Prop := ∀ (c m ba oa i : Nat), i < l.length -> (atN l i).kind = 7 -> EndsC (some ⟨ba, oa, none⟩) l c m V (atN l i).a.toNat -> ValC (some ⟨ba, oa, none⟩) l c m V (atN l i).a.toNat -> RepC (some ⟨ba, oa, none⟩) l c m ba oa V i
def VusP (w0 : World) (L : List Vl) (e : Ending) (w : World) : Prop := ∃ v, e = .returned v /\ NwV w0.heap.size w v L /\ Below w0.heap.size w0 w
def VuL (m : Nat) (A : Option Addr) (l : List Nd) (c : Nat) (u : Value) (W : Wd) (rb : Nat) (EL : List Vl) (n : Nat) (w0 : World) (x y : Value) (w : World) : Prop :=
 ∃ (k : Nat) (L : List VCl), k <= n /\ x = .int .i64 (k : Int) /\ L.map (·.v) = EL.take k /\ VuS m A l c u W rb y L w0 w
theorem cValues_any {A : Option Addr} {l : List Nd} {c : Nat} {u : Value} {W : Wd} (hRep : RepA l W) (hF : Form l) (hl : l.length <= 4096) (hT : ∀ n ∈ l, n.text.length <= 1073741824) (hn : W.length <= 900) (w : World) (hrow : NRow w A l) (hw : IsW W u w) :
 Calls Try.prog 16 #[.agg #[.slice A l.length c], u] w (VusP w ((EN l (l.length - 1) W).take 2)) := by
 have hpos : 0 < l.length := hF.1
 obtain ⟨ba, oa, rfl, -, -⟩ := hrow 0 hpos
 have hb1 := (Below.refl w.heap.size w).alloc (Nat.le_refl _) (.cells #[.slice (some ⟨ba, oa, none⟩) l.length c] 24)
 have HS1 : Hid (WyS w (some ⟨ba, oa, none⟩) l c W u (w.alloc (.cells #[.slice (some ⟨ba, oa, none⟩) l.length c] 24))) := ⟨hb1, hrow.later hb1, hw.later hb1, Blk.new w _ _⟩
 have HO : Hid (∀ w', NRow w' (some ⟨ba, oa, none⟩) l -> Calls Try.prog 28 #[.slice (some ⟨ba, oa, none⟩) l.length c] w' (Ans w' (.bool true))) := fun w' h => cordered_any _ l c hF hl w' h
 have HN : Hid (∀ w', NRow w' (some ⟨ba, oa, none⟩) l -> IsW W u w' -> Calls Try.prog 29 #[.agg #[.slice (some ⟨ba, oa, none⟩) l.length c], u] w' (NrP w' (some ⟨ba, oa, none⟩) l c W)) := fun w' h1 h2 => cnewReader_any _ l c u W w' h1 h2
 have HE : Hid (∀ m, EndsC (some ⟨ba, oa, none⟩) l c m W (l.length - 1)) := fun m => (cread_all hF (by omega) hT hn (l.length - 1) (by omega)).2.1
 have HV : Hid (∀ m, ValC (some ⟨ba, oa, none⟩) l c m W (l.length - 1)) := fun m => (cval_all hF hl hT hn (fun i h1 h2 h3 h4 => hRep c m ba oa i h1 h2 h3 h4) (l.length - 1) (by omega)).1
 obtain ⟨Au, cu, rfl, hcu⟩ := hw.len
 have hlz : (l.length : Int) <= 4096 := by omega
 have hlz1 : (1 : Int) <= (l.length : Int) := by omega
 have hsubz : (l.length : Int) - 1 = ((l.length - 1 : Nat) : Int) := by omega
 have hWz : (W.length : Int) <= 900 := by omega
 have HX : Hid (rowV l (l.length - 1) W 0 W.length = min 2 (EN l (l.length - 1) W).length) := by
  have h1 := wyD_eq (l := l) (W := W)
  rw [<- EN_length hF (by omega) W] at h1
  exact h1
 have HWN := Lib.hid hn
 have HSG : Hid (sgW W 0 W.length = W) := sgW_all
 clear hrow hw hb1 hF hT hRep
 have HC1 := Lib.hid (HO.out _ HS1.out.row)
 go_enter Try.func16, Try.ntmps16
 go_wp2_with fail
 refine HC1.out.mono ?_; rintro e w2 ⟨rfl, hb2⟩
 have HS2 := Lib.hid (HS1.out.later (hb2.mono (Nat.le_refl _)))
 clear HC1 HO hb2 HS1
 have d0 := HS2.out.box.cell 0
 simp at d0
 have HN1 := Lib.hid (HN.out _ HS2.out.row HS2.out.wd)
 go_wp2_with fail
 refine HN1.out.mono ?_; rintro e w7 h7; obtain ⟨v7, rfl, hr7, hb7⟩ := h7.nr HS2.out.bel.size
 obtain ⟨rb8, uR, m8, rfl, hr8, hm8⟩ := hr7
 have HS8 := Lib.hid (HS2.out.later hb7)
 have HR8 := Lib.hid hr8
 have HM8 := Lib.hid hm8
 clear d0 HN1 h7 hb7 hr8 hm8 HN HS2
 have d0 := HS8.out.box.cell 0
 simp at d0
 have HC := Lib.hid (cways_any (HE.out m8) rb8 uR W 0 W.length w7 HR8.out (List.prefix_refl W) HWN.out (Nat.zero_le _) (Nat.le_refl _))
 rw [HX.out] at HC
 clear HE
 go_wp2_with fail
 refine HC.out.mono ?_; rintro e9 w9 ⟨rfl, hrk9⟩
 have HR9 := Lib.hid (HR8.out.rk hrk9)
 have HB9 := Lib.hid (HS8.out.bel.trans (hrk9.below HM8.out HS8.out.bel.size))
 clear hrk9 HC HR8 HS8 d0
 obtain ⟨EL, hEL⟩ : ∃ EL, EN l (l.length - 1) W = EL := ⟨_, rfl⟩
 have HEL := Lib.hid hEL
 rw [hEL]
 clear hEL HX
 obtain ⟨n, hn2⟩ : ∃ n, min 2 EL.length = n := ⟨_, rfl⟩
 have HTK : Hid (EL.take 2 = EL.take n) := by
  unfold Hid; rw [<- hn2]
  by_cases h : 2 <= EL.length
  ·rw [Nat.min_eq_left h]
  ·rw [Nat.min_eq_right (by omega), List.take_length, List.take_of_length_le (by omega)]
 have HNE : Hid (n <= EL.length /\ n <= 2) := by unfold Hid; omega
 rw [hn2]
 clear hn2
 have hnz : (n : Int) <= 2 := by have := HNE.out.2; omega
 have HM9 : Hid (w.heap.size <= w9.heap.size) := HB9.out.size
 generalize hlx : l.length - 1 = lx at *
 clear hlx hsubz
 go_wp2
 go_loopw [25, 7] (VuL m8 (some ⟨ba, oa, none⟩) l c uR W rb8 EL n w9) (fun x _ _ => n - (intOf x).toNat)
 case atStart => exact ⟨0, [], Nat.zero_le _, rfl, by simp, ⟨.refl _ _, HR9.out, HR9.out, ⟨by simp [flatV], .inl ⟨rfl, rfl⟩⟩, fun y hy => by cases hy⟩⟩
 case round =>
  rename_i x y
  obtain ⟨k, L, hk, rfl, hL, hs⟩ := hrel
  have HLE := Lib.hid hL
  have hLl : L.length = k := by
   have := congrArg List.length hL
   rw [List.length_map, List.length_take] at this
   have := HNE.out.1
   omega
  obtain ⟨Ay, cy, rfl, hcy, -⟩ := hs.own.row
  have HS := Lib.hid hs
  rw [hLl] at HS ⊢
  clear hs hL
  by_cases hkn : k < n
  ·have hkz : (k : Int) < (n : Int) := by omega
   have hvk : (EN l lx (sgW W 0 W.length))[k]? = some (EL[k]'(by have := HNE.out.1; omega)) := by rw [HSG.out, HEL.out]; exact List.getElem?_eq_getElem _
   obtain ⟨v, hv⟩ : ∃ v, EL[k]'(by have := HNE.out.1; omega) = v := ⟨_, rfl⟩
   rw [hv] at hvk
   have HTV : Hid (EL.take (k + 1) = EL.take k ++ [v]) := by
    unfold Hid; rw [<- hv, List.take_add_one, List.getElem?_eq_getElem (by have := HNE.out.1; omega)]; rfl
   have HC := Lib.hid (HV.out m8 rb8 uR W 0 W.length k v wr HS.out.rd (List.prefix_refl W) (Nat.zero_le _) (Nat.le_refl _) (by have := HNE.out.2; omega) hvk)
   clear hvk hv
   go_wp2_with fail
   refine HC.out.mono ?_; rintro e w5 ⟨x5, rfl, hx5, hok5, hrk5⟩
   have HS5 := Lib.hid (HS.out.call hrk5)
   have hb6 := (Below.refl w5.heap.size w5).alloc (Nat.le_refl _) (.cells x5.cells 32)
   have HS6 := Lib.hid (HS5.out.later hb6)
   have HOK : Hid (VOk (fun b => w9.heap.size <= b /\ (Value.slice Ay k cy).ownBlock ≠ some b) (w5.alloc (.cells x5.cells 32)) x5) := ⟨hok5.1, (hok5.2.later hb6).mono fun b _ hb => ⟨Nat.le_trans HS.out.rk.size hb, HS.out.own_lt hb⟩⟩
   have HBK := Lib.hid (Blk.new w5 x5.cells 32)
   have HX5 := Lib.hid hx5
   have hlow : w9.heap.size <= (w5.alloc (.cells x5.cells 32)).heap.size := HS6.out.rk.size
   have HKZ : Hid (L.length < 1073741824) := by have := HNE.out.2; unfold Hid; omega
   clear hb6 hok5 hrk5 hx5 HC HS HS5
   obtain ⟨⟨xk, xb, xt, xp, xs⟩, xB, xc⟩ := x5
   simp only [VCl.cells, vlC] at *
   go_wp2_with (at_builtin; refine wpList_append_v1 rfl _ _ rfl w9.heap.size _ L rfl HS6.out.own _ ⟨⟨xk, xb, xt, xp, xs⟩, xB, xc⟩ rfl HBK.out HKZ.out hlow ?_; intro v' w6 h1 h2 h3; have HS7 := Lib.hid (HS6.out.snoc HOK.out h1 h2 h3); clear h1 h2 h3)
   clear HS6 HOK HBK
   go_wp2
   go_roundw
   case rel => exact ⟨k + 1, L ++ [⟨⟨xk, xb, xt, xp, xs⟩, xB, xc⟩], by omega, by go_num, by rw [HTV.out, List.map_append, HLE.out, <- HX5.out]; rfl, HS7.out⟩
   case measure => simp [intOf]; omega
  ·obtain rfl : k = n := by omega
   have HP : Hid (VusP w (EL.take 2) (.returned (.slice Ay k cy)) wr) := by
    obtain ⟨A1, c1, e1, e2, e3⟩ := HS.out.nw
    refine ⟨_, rfl, ⟨A1, c1, by rw [e1, HLE.out, HTK.out], by rw [HTK.out, <- HLE.out]; exact e2, ?_⟩, HB9.out.trans (HS.out.rk.below HM8.out HM9.out)⟩
    rw [HTK.out, <- HLE.out]
    exact e3.mono fun b _ hb => Nat.le_trans HM9.out hb
   have hkz : ¬ (k : Int) < (k : Int) := by omega
   clear HS HV
   go_wp2
   go_ret
   rw [HEL.out]; exact HP.out
def Yields (P : Program) (g : Nat) (lb : Array Value) (N : Nat) (ag : Nat -> Array Value) (I : Nat -> World -> Prop) : Prop :=
 ∀ (l : Nat) (J : Nat -> World -> Prop) (W : World), (∀ k W, J k W -> I k W) ->
   (∀ k W1, k < N -> J k W1 -> YieldAt Fence.wide 1 P l (ag k) W1 fun e W' => e = .returned (.bool true) /\ J (k + 1) W') -> J 0 W ->
   CallsIn Fence.wide 2 P g (#[.func (.yield l) #[] #[]] ++ lb) W fun e W' => (∃ v, e = .returned v) /\ J N W'
theorem range_known {P : Program} {g : Operand} {ps : Array Tmp} {assign body : Code} {Q : Exit -> Act -> World -> Prop} {a : Act} {w : World}
 {gf : Nat} {lb : Array Value} (hg : a.eval g = .func (.func gf) #[] lb) (eg : ∀ args w, (callFunc gf args).run P w = .ok (.enter gf args) w)
 {N : Nat} {ag : Nat -> Array Value} {I : Nat -> World -> Prop} (hseq : Yields P gf lb N ag I) (hps : ∀ k, (ag k).size = ps.size)
 (hI : ∀ k W l o o', I k W -> w.heap.size <= l -> W.heap[l]? = some o -> o.isCells = false -> I k (W.putObj l o'))
 (h0 : ∀ o o', I 0 ((w.alloc o).alloc o')) (a₁ : Nat -> Act)
 (hassign : ∀ (l k : Nat) (W : World) (K : Act -> World -> Prop), k < N -> K (a₁ k) W ->
   assign.wpIn (Fence.wide.inRound l) 1 P (Exit.then K (fun _ _ _ => False)) { tmps := (ps.zip (ag k)).foldl (fun t (p, v) => t.setIfInBounds p v) a.tmps, defers := [] } W)
 (hbody : ∀ (l k : Nat) (W : World), k < N -> I k W -> body.wpIn (Fence.wide.inRound l) 1 P (fun e _ W' => e = .normal /\ KeepsFrom w.heap.size W W' /\ I (k + 1) W') (a₁ k) W)
 (hdone : ∀ (W : World), I N W -> W.heap[w.heap.size]? = some (.deferred (some [])) -> Q .normal { a with defers := { target := .collected w.heap.size, args := #[] } :: a.defers } W) :
 (Code.rangeFunc g ps assign body).wpIn Fence.wide 3 P Q a w := by
 refine wpIn_rangeFunc fun fn hfn => ?_
 let rc : LoopState -> Loop := fun st => { state := st, pending := none, fn, tmps := a.tmps, params := ps, assign, body, defers := w.heap.size }
 let W1 : World := (w.alloc (.deferred (some []))).alloc (.loop (rc .ready))
 let J : Nat -> World -> Prop := fun k W => I k W /\ W.heap[w.heap.size + 1]? = some (.loop (rc .ready)) /\ W.heap[w.heap.size]? = some (.deferred (some []))
 have hL1 : W1.heap[w.heap.size + 1]? = some (.loop (rc .ready)) := by
  have := World.alloc_heap_new (w.alloc (.deferred (some []))) (.loop (rc .ready))
  rwa [World.size_alloc] at this
 have hK1 : W1.heap[w.heap.size]? = some (.deferred (some [])) := (Below.heap_alloc _ _ _ (by simp)).trans (World.alloc_heap_new w _)
 refine ⟨w.heap.size + 1, [{ target := .collected w.heap.size, args := #[] }], W1, { target := .fn (.func gf) lb, args := #[.func (.yield (w.heap.size + 1)) #[] #[]] }, W1, gf, #[.func (.yield (w.heap.size + 1)) #[] #[]] ++ lb, W1, run_enterLoop_outer _ _ _ _ _, ?_, ?_, ?_, fun _ => by decide, ?_⟩
 ·simp only [resolve, hg]
  simp [go_sem]
 ·intro f' hf'; trivial
 ·simp [invoke, go_sem, eg]
 refine (hseq (w.heap.size + 1) J W1 (fun k W h => h.1) (fun k W hk hJ => ?_) ⟨h0 _ _, hL1, hK1⟩).mono ?_
 ·obtain ⟨hi, hl, hd⟩ := hJ
  have hlt : w.heap.size + 1 < W.heap.size := (Array.getElem?_eq_some_iff.1 hl).1
  refine ⟨fn, _, assign, body, run_yield (P := P) (args := ag k) hl (hps k), roundIn_of_wpIn hfn (hassign _ k W _ hk ⟨_, run_beginRound hl rfl, ?_⟩)⟩
  have hl2 : (W.putObj (w.heap.size + 1) (.loop { rc .ready with state := .busy })).heap[w.heap.size + 1]? = some (.loop { rc .ready with state := .busy }) := World.putObj_heap_same hlt
  have hd2 : (W.putObj (w.heap.size + 1) (.loop { rc .ready with state := .busy })).heap[w.heap.size]? = some (.deferred (some [])) := (World.putObj_heap_other (by omega)).trans hd
  refine wpIn_mono (hbody _ k _ hk (hI k W _ _ _ hi (by omega) hl rfl)) ?_
  rintro e a3 W3 ⟨rfl, hk3, hi3⟩
  have hl3 := hk3.same _ _ (by omega) hl2 rfl
  have hd3 := hk3.same _ _ (Nat.le_refl _) hd2 rfl
  exact ⟨_, _, run_endRound (P := P) none hl3, rfl, hI _ _ _ _ _ hi3 (by omega) hl3 rfl, World.putObj_heap_same (Array.getElem?_eq_some_iff.1 hl3).1, (World.putObj_heap_other (by omega)).trans hd3⟩
 ·rintro e W2 ⟨⟨v, rfl⟩, hi, hl, hd⟩
  exact ⟨none, _, run_endLoop (P := P) hl (by simp [rc]), hdone _ (hI _ _ _ _ _ hi (by omega) hl rfl) ((World.putObj_heap_other (by omega)).trans hd)⟩
attribute [local go_sem] Oper.semAt_some
def bwA (N : Nat) (vs : List Value) (k : Nat) : Array Value := #[.int .i64 ((N - k : Nat) - 1 : Int), vs.getD (N - k - 1) (.int .i64 0)]
theorem back_yields (Bs N c : Nat) (A : Option Addr) (vs : List Value) (I : Nat -> World -> Prop) (hN : N <= 1000000)
 (hI : ∀ k W, I k W -> W.cell? ⟨Bs, 0, none⟩ = some (.slice A N c) /\ ∀ j, j < N -> ∃ b off, A = some ⟨b, off, none⟩ /\ W.cell? ⟨b, off + j, none⟩ = some (vs.getD j (.int .i64 0))) :
 Yields Try.prog 78 #[.pointer (some ⟨Bs, 0, none⟩)] N (bwA N vs) I := fun l J W hJI hY h0 => by
 have hc0 := (hI _ _ (hJI _ _ h0)).1
 refine callsIn_of_wp Try.func78 rfl trivial ?_
 simp only [Try.ntmps78, List.size_toArray, List.length_cons, List.length_nil, Nat.reduceAdd, Nat.reduceSub, Array.replicate_succ, Array.replicate_zero, List.push_toArray, List.append_toArray, List.nil_append, List.cons_append]
 have hNz : (N : Int) <= 1000000 := by omega
 gi_wp2
 gi_loopw [3] (fun i wr => ∃ k : Nat, k <= N /\ i = .int .i64 ((N - k : Nat) - 1 : Int) /\ J k wr) (fun i _ => (intOf i + 1).toNat)
 case atStart => exact ⟨0, Nat.zero_le _, rfl, h0⟩
 case round =>
  obtain ⟨k, hk, rfl, hJs⟩ := hrel
  obtain ⟨hc, hcs⟩ := hI k wr (hJI _ _ hJs)
  by_cases hlt : k < N
  ·obtain ⟨j, hj⟩ : ∃ j, N - k = j + 1 := ⟨N - k - 1, by omega⟩
   have hjN : j < N := by omega
   obtain ⟨b, off, rfl, hcell⟩ := hcs j hjN
   obtain ⟨fn, tmps, assign, body, hy, hR⟩ := hY k wr hlt hJs
   have hag : bwA N vs k = #[.int .i64 (j : Int), vs.getD j (.int .i64 0)] := by
    unfold bwA; rw [hj, show j + 1 - 1 = j by omega, show ((j + 1 : Nat) : Int) - 1 = (j : Int) by omega]
   have e : ((N - k : Nat) : Int) - 1 = (j : Int) := by omega
   rw [e]
   rw [hag] at hy
   generalize vs.getD j (.int .i64 0) = vj at *
   have hj0 : ¬ (j : Int) < 0 := by omega
   have hj1 : (0 : Int) <= (j : Int) := by omega
   have hjz : (j : Int) < (N : Int) := by omega
   clear hcs hI hJI hY h0 hag e hc0
   gi_wp2
   refine hR.mono ?_
   rintro e W3 ⟨rfl, hJ3⟩
   gi_wp2
   go_roundw
   case rel => exact ⟨k + 1, by omega, by rw [show N - (k + 1) = j by omega], hJ3⟩
   case measure => simp [intOf]
  ·obtain rfl : k = N := by omega
   have e : ((k - k : Nat) : Int) - 1 = -1 := by omega
   rw [e]
   clear hcs
   gi_wp2
   go_end0
   exact ⟨⟨_, rfl⟩, hJs⟩
theorem backward_any (N c : Nat) (A : Option Addr) (w : World) :
 Calls Try.prog 64 #[.slice A N c] w (fun e w' => e = .returned (.func (.func 78) #[] #[.pointer (some ⟨w.heap.size, 0, none⟩)]) /\ w' = w.alloc (.cells #[.slice A N c] 99)) := by
 go_enter Try.func64, Try.ntmps64
 go_wp2
 go_ret
 exact ⟨rfl, rfl⟩
end Go.Proofs.Ytpbbokdmoaadfaa
namespace Go.Proofs.Ytpbbokdmoaadfaa
set_option maxHeartbeats 64000000
set_option maxRecDepth 1000000
set_option linter.all false
open Go Go.RowKit
theorem tV_more {l : List Nd} {i : Nat} {W : Wd} {a b t : Nat} (hF : Form l) (hi : i < l.length) (h : a <= b) (hb : b <= W.length) : tV l i (t + 1) W a b = sg b fun p => tV l i t W a p * cV l i W p b := by
 conv => lhs; unfold tV
 rw [if_pos h, cntT_more hF hi, sgW_len hb]
 unfold sg
 refine Eq.trans ?_ (sum_mid (a := a) (m := b - a) (by omega) ?_).symm
 ·congr 1
  refine List.map_congr_left fun k hk => ?_
  have hk := List.mem_range.1 hk
  unfold tV cV
  rw [if_pos (by omega), if_pos (by omega), sgW_take (by omega), sgW_drop]
 ·intro k hk h'
  unfold tV cV
  rcases h' with h' | h'
  ·rw [if_neg (c := a <= k) (by omega), Nat.zero_mul]
  ·omega
theorem tV_now {l : List Nd} {i : Nat} {W : Wd} {a b t : Nat} : min 2 (tV l i t W a b) = nowV l i W a t b := by
 unfold tV nowV; split <;> rfl
theorem rp_len {l : List Nd} {i : Nat} {W : Wd} {a b t : Nat} (hF : Form l) (hi : i < l.length) (h : a <= b) : (rtE (EN l i) t (sgW W a b)).length = tV l i t W a b := by
 rw [rtE_length hF hi (EN_length hF hi)]; unfold tV; rw [if_pos h]
theorem rp_step {l : List Nd} {i : Nat} {W : Wd} {fr tt t rk : Nat} (hF : Form l) (hi : i < l.length) (ht : fr <= tt) (htt : tt <= W.length) {ys : List Vl} (h : (rtE (EN l i) (t + 1) (sgW W fr tt))[rk]? = some ys) :
 rk < sg tt (kdf l i W tt (tV l i t W fr)) /\ ∀ q r s v, q < tt -> r < tV l i t W fr q -> rk = upS q tt (kdf l i W tt (tV l i t W fr)) + (r * cV l i W q tt + s) -> (EN l i (sgW W q tt))[s]? = some v -> fr <= q /\ ∃ ys', (rtE (EN l i) t (sgW W fr q))[r]? = some ys' /\ ys = ys' ++ [v] := by
 constructor
 ·have h1 : rk < tV l i (t + 1) W fr tt := by rw [<- rp_len hF hi ht]; exact (List.getElem?_eq_some_iff.1 h).1
  rw [tV_more hF hi ht htt] at h1
  simpa [kdf] using h1
 ·intro q r s v hq hr hrk hv
  have hfq : fr <= q := by
   by_cases h2 : fr <= q
   ·exact h2
   ·exfalso; unfold tV at hr; rw [if_neg h2] at hr; omega
  have hr2 : r < (rtE (EN l i) t (sgW W fr q)).length := by rw [rp_len hF hi hfq]; exact hr
  refine ⟨hfq, _, List.getElem?_eq_getElem hr2, ?_⟩
  have := idx_times hF hi hfq hq htt (List.getElem?_eq_getElem hr2) hv
  rw [show upS q tt (fun q => tV l i t W fr q * cV l i W q tt) = upS q tt (kdf l i W tt (tV l i t W fr)) from rfl, <- hrk, h] at this
  exact Option.some.inj this
theorem rp_ends {l : List Nd} {i : Nat} {W : Wd} {fr tt rk : Nat} (ht : fr <= tt) (htt : tt <= W.length) {ys : List Vl} (h : (rtE (EN l i) 0 (sgW W fr tt))[rk]? = some ys) : ys = [] /\ tt = fr := by
 change (if sgW W fr tt = [] then [[]] else [])[rk]? = some ys at h
 split at h
 case isTrue e =>
  refine ⟨?_, (sgW_nil htt ht).1 e⟩
  cases rk with
  | zero => exact (Option.some.inj h).symm
  | succ r => cases h
 case isFalse e => cases h
theorem rp_less {l : List Nd} {i : Nat} {W : Wd} {fr : Nat} (hF : Form l) (hi : i < l.length) (k : Nat) : ∀ (d tt rk : Nat) (ys : List Vl), fr <= tt -> tt <= W.length -> (rtE (EN l i) (k + d) (sgW W fr tt))[rk]? = some ys -> ∃ p, fr <= p /\ p <= tt /\ tV l i k W fr p ≠ 0
 | 0, tt, rk, ys, ht, htt, h => ⟨tt, ht, Nat.le_refl _, by rw [<- rp_len hF hi ht]; have := (List.getElem?_eq_some_iff.1 h).1; rw [Nat.add_zero] at this; omega⟩
 | d + 1, tt, rk, ys, ht, htt, h => by
  obtain ⟨h1, -⟩ := rp_step (t := k + d) hF hi ht htt h
  have hne : ∃ q, q < tt /\ tV l i (k + d) W fr q ≠ 0 := by
   apply Classical.byContradiction
   intro hc
   have : sg tt (kdf l i W tt (tV l i (k + d) W fr)) = 0 := sg_nil fun q hq => by
    have h0 : tV l i (k + d) W fr q = 0 := Classical.byContradiction fun h2 => hc ⟨q, hq, h2⟩
    unfold kdf; rw [h0, Nat.zero_mul]
   omega
  obtain ⟨q, hq, hqn⟩ := hne
  have hfq : fr <= q := Classical.byContradiction fun h2 => hqn (by unfold tV; rw [if_neg h2])
  have hl : 0 < (rtE (EN l i) (k + d) (sgW W fr q)).length := by rw [rp_len hF hi hfq]; omega
  obtain ⟨p, h3, h4, h5⟩ := rp_less hF hi k d q 0 _ hfq (by omega) (List.getElem?_eq_getElem hl)
  exact ⟨p, h3, by omega, h5⟩
theorem rp_some {l : List Nd} {i : Nat} {W : Wd} {fr tt k d rk : Nat} {ys : List Vl} (hF : Form l) (hi : i < l.length) (ht : fr <= tt) (htt : tt <= W.length) (h : (rtE (EN l i) (k + d) (sgW W fr tt))[rk]? = some ys) : plF (W.length + 1) (nowV l i W fr k) ≠ [] := fun e => by
 obtain ⟨p, h1, h2, h3⟩ := rp_less hF hi k d tt rk ys ht htt h
 have hm : (p, nowV l i W fr k p) ∈ plF (W.length + 1) (nowV l i W fr k) := mem_plF.2 ⟨by show p < W.length + 1; omega, rfl, by show nowV l i W fr k p ≠ 0; rw [<- tV_now]; omega⟩
 rw [e] at hm; cases hm
theorem rp_more {l : List Nd} {i : Nat} {W : Wd} {fr t : Nat} (hF : Form l) (hi : i < l.length) : plF (W.length + 1) (fun b => min 2 (sg (W.length + 1) fun p => nowV l i W fr t p * if p < b then rowV l i W p b else 0)) = plF (W.length + 1) (nowV l i W fr (t + 1)) := plF_congr fun b hb => by
 rw [<- now_more hF hi (by omega)]
 congr 1
 refine sg_congr fun p hp => ?_
 congr 1
 by_cases h1 : p < b
 ·rw [if_pos h1, if_neg (by omega)]
 ·rw [if_neg h1]
  by_cases h2 : b = p
  ·rw [if_pos h2]
  ·rw [if_neg h2]; unfold rowV; rw [if_neg (by omega)]
def rpL (G : Nat -> List (List Vl)) (k n : Nat) : List (List Vl) := ((List.range n).map fun t => k + t).flatMap G
theorem rpL_succ {G : Nat -> List (List Vl)} {k n : Nat} : rpL G k (n + 1) = G k ++ rpL G (k + 1) n := by
 unfold rpL
 rw [List.range_succ_eq_map, List.map_cons, List.flatMap_cons, List.map_map]
 congr 2
 refine List.map_congr_left fun t _ => ?_
 simp; omega
theorem rpL_of {G : Nat -> List (List Vl)} {k n : Nat} : ((List.range n).flatMap fun t => G (k + t)) = rpL G k n := by
 unfold rpL; rw [List.flatMap_map]
theorem rpL_step {G : Nat -> List (List Vl)} {k n r : Nat} {xs : List Vl} (h : (rpL G k n)[r]? = some xs) : ∃ n', n = n' + 1 /\ ((r < (G k).length /\ (G k)[r]? = some xs) \/ ((G k).length <= r /\ (rpL G (k + 1) n')[r - (G k).length]? = some xs)) := by
 cases n with
 | zero => unfold rpL at h; simp at h
 | succ n =>
  refine ⟨n, rfl, ?_⟩
  rw [rpL_succ] at h
  by_cases hr : r < (G k).length
  ·rw [List.getElem?_append_left hr] at h; exact .inl ⟨hr, h⟩
  ·rw [List.getElem?_append_right (by omega)] at h; exact .inr ⟨by omega, h⟩
theorem rpL_some {G : Nat -> List (List Vl)} : ∀ {n k r : Nat} {xs : List Vl}, (rpL G k n)[r]? = some xs -> ∃ (d r' : Nat), d < n /\ (G (k + d))[r']? = some xs
 | 0, k, r, xs, h => by unfold rpL at h; simp at h
 | n + 1, k, r, xs, h => by
  obtain ⟨n', e, ⟨-, h2⟩ | ⟨-, h2⟩⟩ := rpL_step h
  ·exact ⟨0, r, by omega, h2⟩
  ·cases e
   obtain ⟨d, r', h3, h4⟩ := rpL_some h2
   exact ⟨d + 1, r', by omega, by rw [show k + (d + 1) = k + 1 + d by omega]; exact h4⟩
theorem Kc.putObj {W : World} {B k : Nat} {o o' : Obj} (h : W.heap[k]? = some o) (hn : o.isCells = false) : Kc B W (W.putObj k o') := by
 have hs : (W.putObj k o').heap.size = W.heap.size := by simp [World.putObj]
 refine ⟨by rw [hs]; exact Nat.le_refl _, fun j _ vs t hb => ?_, fun p v _ hc => ?_⟩
 ·refine Eq.trans (World.putObj_heap_other fun e => ?_) hb
  subst e
  unfold Blk at hb
  rw [h] at hb
  have e := Option.some.inj hb
  subst e
  cases hn
 ·have hne : p.block ≠ k := fun e => by
   unfold World.cell? at hc
   rw [e, h] at hc
   cases o with
   | cells vs t f => cases hn
   | _ => cases hc
  rw [World.cell?_of_block (World.putObj_heap_other hne)]
  exact hc
theorem Rk.putObj {m : Nat} {l : List Nd} {V : Wd} {B k : Nat} {o o' : Obj} {w0 W : World} (h : Rk m l V B [] w0 W) (hB : B <= k) (h0 : w0.heap.size <= k) (hm : m < B) (hk : W.heap[k]? = some o) (hn : o.isCells = false) : Rk m l V B [] w0 (W.putObj k o') := by
 have hs : (W.putObj k o').heap.size = W.heap.size := by simp [World.putObj]
 refine ⟨h.os, h.tape, h.output, by rw [hs]; exact h.size, fun b hb hne => (World.putObj_heap_other (by omega)).trans (h.block b hb hne), (fun g hg => by cases hg), fun X hX hK => ?_, fun b o2 hb ho h2 => (World.putObj_heap_other fun e => ?_).trans (h.nc b o2 hb ho h2)⟩
 ·refine ((h.map X hX hK).keep (fun es hme => (World.putObj_heap_other (by omega)).trans hme) fun b cur _ hb => (Kc.putObj (B := b + 1) hk hn).block b (Nat.lt_succ_self _) _ _ hb).less fun g hg => .inl hg
 ·subst e
  have := (Array.getElem?_eq_some_iff.1 ho).1
  omega
def rpR (l : List Nd) (a : Nat) (W : Wd) (fr k : Nat) : List (List (Nat × Nat)) := (List.range k).map fun t => plF (W.length + 1) (nowV l a W fr t)
theorem rpR_length {l : List Nd} {a : Nat} {W : Wd} {fr k : Nat} : (rpR l a W fr k).length = k := by simp [rpR]
theorem rpR_succ {l : List Nd} {a : Nat} {W : Wd} {fr k : Nat} : rpR l a W fr (k + 1) = rpR l a W fr k ++ [plF (W.length + 1) (nowV l a W fr k)] := by unfold rpR; rw [List.range_succ, List.map_append]; rfl
theorem rpR_get {l : List Nd} {a : Nat} {W : Wd} {fr k j : Nat} (hj : j < k) : (rpR l a W fr k).getD j [] = plF (W.length + 1) (nowV l a W fr j) := by
 unfold rpR
 rw [List.getD_eq_getElem?_getD, List.getElem?_map, List.getElem?_range hj]; rfl
structure RkidS (m : Nat) (A : Option Addr) (l : List Nd) (c : Nat) (u : Value) (W V : Wd) (rb a fr k j hb : Nat) (nd : Value) (list v : Value) (vs : List Value) (w1 w : World) : Prop where
 rk : Rk m l V w1.heap.size [] w1 w
 rd : Rdr rb A l c u W V m w
 box : Blk w hb #[nd] 80
 own : OwnLs w w1.heap.size v vs
 ls : LsR w vs (rpR l a W fr k)
 cur : IsR w list (plF (W.length + 1) (nowV l a W fr j))
section
variable {m : Nat} {A : Option Addr} {l : List Nd} {c : Nat} {u : Value} {W V : Wd} {rb a fr k j hb : Nat} {nd list v : Value} {vs : List Value} {w1 w w' : World}
theorem RkidS.later (h : RkidS m A l c u W V rb a fr k j hb nd list v vs w1 w) (hb' : Below w.heap.size w w') : RkidS m A l c u W V rb a fr k j hb nd list v vs w1 w' :=
 ⟨h.rk.later h.rk.size hb', h.rd.later hb', h.box.later hb', h.own.later hb', h.ls.keep fun b cur k => k.later hb', by
  obtain ⟨A', c', h1, h2, h3⟩ := h.cur
  exact ⟨A', c', h1, h2, h3.later hb'⟩⟩
theorem RkidS.grow (h : RkidS m A l c u W V rb a fr k k hb nd list v vs w1 w) (hr1 : Rdr rb A l c u W V m w1) {v' : Value} {A2 : Option Addr} {n2 c2 : Nat} (hl : list = .slice A2 n2 c2) (ho : OwnLs w' w1.heap.size v' (vs ++ [.slice A2 n2 c2])) (hg : w.grownBy w' v.ownBlock) :
 RkidS m A l c u W V rb a fr (k + 1) k hb nd list v' (vs ++ [.slice A2 n2 c2]) w1 w' := by
 have hkp : ∀ b cur, Blk w b cur 92 -> Blk w' b cur 92 := fun b cur hb => (hg.block b hb.lt (fun e => own_typedU h.own hb (by decide) b e.symm rfl)).trans hb
 have rk' : Rk m l V w1.heap.size [] w1 w' := h.rk.growT h.rk.size h.own (by decide) hg
 have hcur : IsR w' list (plF (W.length + 1) (nowV l a W fr k)) := by
  obtain ⟨A', c', h1, h2, h3⟩ := h.cur
  exact ⟨A', c', h1, h2, h3.keep hkp⟩
 refine ⟨rk', hr1.at_ (Nat.le_refl _) rk', (hg.block hb h.box.lt (fun e => own_typedU h.own h.box (by decide) hb e.symm rfl)).trans h.box, ho, ?_, hcur⟩
 rw [rpR_succ]
 rw [hl] at hcur
 exact (h.ls.keep hkp).snoc hcur
theorem RkidS.next (h : RkidS m A l c u W V rb a fr (k + 1) k hb nd list v vs w1 w) {v9 : Value} (hi : IsR w' v9 (plF (W.length + 1) (nowV l a W fr (k + 1)))) (hk : Rk m l V w.heap.size [] w w') : RkidS m A l c u W V rb a fr (k + 1) (k + 1) hb nd v9 v vs w1 w' :=
 have kc := hk.kc ⟨_, h.rd.kept⟩
 ⟨h.rk.call h.rk.size hk, h.rd.rk hk, kc.block _ h.box.lt _ _ h.box, kc.owns h.own, h.ls.kc kc, hi⟩
end
abbrev RpG (l : List Nd) (a : Nat) (W : Wd) (fr to_ : Nat) (t : Nat) : List (List Vl) := rtE (EN l a) t (sgW W fr to_)
def RpC (l : List Nd) (a : Nat) (W : Wd) (fr to_ lo N k r : Nat) (xs : List Vl) : Prop := (rpL (RpG l a W fr to_) (max k lo) (lo + N - max k lo))[r]? = some xs
def RkidL (m : Nat) (A : Option Addr) (l : List Nd) (c : Nat) (u : Value) (W V : Wd) (rb a fr to_ lo N hb : Nat) (nd : Value) (xs : List Vl) (w1 : World) (x4 x11 x12 x13 : Value) (w : World) : Prop :=
 ∃ (k r : Nat) (vs : List Value), k <= lo + N /\ r <= 1 /\ x4 = .int .i64 (r : Int) /\ x13 = .int .i64 (k : Int) /\ RpC l a W fr to_ lo N k r xs /\ RkidS m A l c u W V rb a fr k k hb nd x11 x12 vs w1 w
theorem RpC.next {l : List Nd} {a : Nat} {W : Wd} {fr to_ lo N k r : Nat} {xs : List Vl} (h : RpC l a W fr to_ lo N k r xs) (hk : k < lo) : RpC l a W fr to_ lo N (k + 1) r xs := by
 unfold RpC at h ⊢
 rw [show max (k + 1) lo = max k lo by omega]; exact h
theorem RpC.step {l : List Nd} {a : Nat} {W : Wd} {fr to_ lo N k r : Nat} {xs : List Vl} (hF : Form l) (ha : a < l.length) (ht : fr <= to_) (hr : r <= 1) (h : RpC l a W fr to_ lo N k r xs) (hk : lo <= k) : k < lo + N /\ (r < nowV l a W fr k to_ -> (rtE (EN l a) k (sgW W fr to_))[r]? = some xs) /\ (¬ r < nowV l a W fr k to_ -> nowV l a W fr k to_ <= r /\ RpC l a W fr to_ lo N (k + 1) (r - nowV l a W fr k to_) xs) := by
 unfold RpC at h
 rw [show max k lo = k by omega] at h
 obtain ⟨n, hn, h2⟩ := rpL_step h
 have hl : (RpG l a W fr to_ k).length = tV l a k W fr to_ := rp_len hF ha ht
 have hw : nowV l a W fr k to_ = min 2 (tV l a k W fr to_) := tV_now.symm
 rw [hl] at h2
 refine ⟨by omega, fun hlt => ?_, fun hge => ?_⟩
 ·rcases h2 with ⟨-, h3⟩ | ⟨h3, -⟩
  ·exact h3
  ·omega
 ·rcases h2 with ⟨h3, -⟩ | ⟨h3, h4⟩
  ·omega
  ·have e : nowV l a W fr k to_ = tV l a k W fr to_ := by omega
   refine ⟨by omega, ?_⟩
   unfold RpC
   rw [show max (k + 1) lo = k + 1 by omega, show lo + N - (k + 1) = n by omega, e]
   exact h4
theorem RpC.some {l : List Nd} {a : Nat} {W : Wd} {fr to_ lo N k r : Nat} {xs : List Vl} (hF : Form l) (ha : a < l.length) (ht : fr <= to_) (htt : to_ <= W.length) {j : Nat} (hj : j <= k) (h : RpC l a W fr to_ lo N k r xs) : plF (W.length + 1) (nowV l a W fr j) ≠ [] /\ k < lo + N := by
 unfold RpC at h
 obtain ⟨d, r', h1, h2⟩ := rpL_some h
 refine ⟨rp_some (d := max k lo - j + d) hF ha ht htt (rk := r') (ys := xs) ?_, by omega⟩
 rw [show j + (max k lo - j + d) = max k lo + d by omega]
 exact h2
structure RkbS (m : Nat) (l : List Nd) (V : Wd) (rb N c : Nat) (A : Option Addr) (tt rk : Nat) (tv : Value) (L : List VCl) (w4 w : World) : Prop where
 kp : Rk m l V w4.heap.size [] w4 w
 wk : Wk w4.heap.size w4.heap.size rb tt rk tv L w
 bx : Blk w (w4.heap.size + 1) #[.pointer (some ⟨w4.heap.size, 0, none⟩)] 100
 bs : Blk w (w4.heap.size + 2) #[.slice A N c] 99
theorem RkbS.later {m : Nat} {l : List Nd} {V : Wd} {rb N c : Nat} {A : Option Addr} {tt rk : Nat} {tv : Value} {L : List VCl} {w4 w w' : World} (h : RkbS m l V rb N c A tt rk tv L w4 w) (hb : Below w.heap.size w w') : RkbS m l V rb N c A tt rk tv L w4 w' :=
 ⟨h.kp.later h.kp.size hb, h.wk.later hb, h.bx.later hb, h.bs.later hb⟩
theorem RkbS.putObj {m : Nat} {l : List Nd} {V : Wd} {rb N c : Nat} {A : Option Addr} {tt rk : Nat} {tv : Value} {L : List VCl} {w4 w : World} (h : RkbS m l V rb N c A tt rk tv L w4 w) {k : Nat} {o o' : Obj} (hB : w4.heap.size <= k) (hm : m < w4.heap.size) (hk : w.heap[k]? = some o) (hn : o.isCells = false) : RkbS m l V rb N c A tt rk tv L w4 (w.putObj k o') :=
 have kc : Kc w.heap.size w (w.putObj k o') := Kc.putObj hk hn
 ⟨h.kp.putObj hB hB hm hk hn, h.wk.kc kc, kc.block _ h.bx.lt _ _ h.bx, kc.block _ h.bs.lt _ _ h.bs⟩
def RkbI (m : Nat) (l : List Nd) (V : Wd) (ai : Nat) (W : Wd) (rb K c : Nat) (A : Option Addr) (fr to_ : Nat) (xs : List Vl) (w4 : World) (k : Nat) (w : World) : Prop :=
 ∃ (tt rk : Nat) (tv : Value) (L : List VCl) (ys : List Vl), k <= K /\ fr <= tt /\ tt <= to_ /\ rk <= 1 /\ L.length = k /\ (rtE (EN l ai) (K - k) (sgW W fr tt))[rk]? = some ys /\ xs = ys ++ (L.map (·.v)).reverse /\ RkbS m l V rb K c A tt rk tv L w4 w
theorem RkbI.later {m : Nat} {l : List Nd} {V : Wd} {ai : Nat} {W : Wd} {rb K c : Nat} {A : Option Addr} {fr to_ : Nat} {xs : List Vl} {w4 : World} {k : Nat} {w w' : World} (h : RkbI m l V ai W rb K c A fr to_ xs w4 k w) (hb : Below w.heap.size w w') : RkbI m l V ai W rb K c A fr to_ xs w4 k w' := by
 obtain ⟨t1, r1, tv, L, ys, q1, q2, q3, q4, q5, q6, q7, hs⟩ := h
 exact ⟨t1, r1, tv, L, ys, q1, q2, q3, q4, q5, q6, q7, hs.later hb⟩
theorem upon_round {l n : Nat} {P : Program} {o : Oper} {a : Act} {next next' : Act -> World -> Prop} {Q : Exit -> Act -> World -> Prop} (hno : ¬ LetsOut Q) (hn : ∀ a w, next a w -> next' a w) {r : Result Next} (h : o.upon P a next Q r) : o.uponIn (Fence.wide.inRound l) n P a next' Q r := by
 unfold Oper.upon at h
 split at h
 ·exact hn _ _ h
 ·exact hn _ _ h
 ·exact hn _ _ h
 ·refine ⟨fun hd => (by cases hd), CallsIn.inRound l (callsIn_wide.2 (h.mono ?_))⟩
  intro e w' hr
  cases e with
  | returned v => exact hn _ _ hr
  | panicked c => exact hr
  | outgrown => exact absurd hr hno
 ·refine ⟨fun hd => (by cases hd), fun c cs _ => ?_⟩
  obtain ⟨v, w', hr, hs⟩ := h c cs
  exact ⟨v, w', hn _ _ hr, stepsIn_wide.2 hs⟩
 ·exact h
 ·exact h.elim
theorem ops_round {l n : Nat} {P : Program} {ops : Array Oper} {Q : Exit -> Act -> World -> Prop} (hno : ¬ LetsOut Q) (hnd : ∀ (i : Nat) (o : Oper), ops[i]? = some o -> ∀ c, o.op ≠ .defer c) : ∀ (sched : List Nat) (a : Act) (w : World), wpOps P ops Q sched a w -> wpOpsIn (Fence.wide.inRound l) n P ops Q sched a w
 | [], a, w, h => h
 | i :: rest, a, w, h => by
  unfold wpOps at h
  unfold wpOpsIn
  cases ho : ops[i]? with
  | none => rw [ho] at h; exact ops_round hno hnd rest a w h
  | some o =>
   rw [ho] at h
   simp only at h ⊢
   split at h
   ·rename_i hw
    rw [if_pos hw]
    refine ⟨fun _ _ => trivial, ?_⟩
    rcases h with h | ⟨-, h⟩
    ·unfold Oper.wp at h
     rw [Oper.semAt_eq _ _ _ (hnd i o ho)]
     exact upon_round hno (fun a w => ops_round hno hnd rest a w) h
    ·exact absurd h hno
   ·rename_i hw
    rw [if_neg hw]
    exact ⟨fun _ _ => trivial, ops_round hno hnd rest _ w h⟩
def noDefer (ops : Array Oper) : Bool := ops.toList.all fun o => match o.op with
 | .defer _ => false
 | _ => true
theorem noDefer_of {ops : Array Oper} (h : noDefer ops = true) : ∀ (i : Nat) (o : Oper), ops[i]? = some o -> ∀ c, o.op ≠ .defer c := fun i o ho c e => by
 unfold noDefer at h
 have hm : o ∈ ops.toList := List.mem_of_getElem? (by rw [Array.getElem?_toList]; exact ho)
 have := List.all_eq_true.1 h o hm
 rw [e] at this
 cases this
theorem round_region_tail {P : Program} {Q : Exit -> Act -> World -> Prop} {ops : Array Oper} {a0 : Act} {l n : Nat} {id : Nat} {w : World} (nf : Nat) (S : World -> Prop) (hSt : ∀ w w', S w -> Below w.heap.size w w' -> S w') (plan : List (List (Tmp × Option Nat))) {fr tl : List Oper} (hfr : ops.toList.take nf = fr) (htl : ops.toList.drop nf = tl)
 (hm : P.follows .mixedOrders = true) (hck : okRegion ops a0.tmps.size = true) (hlast : tailOk ops nf = true) (hnd : noDefer ops = true)
 (hplan : fr.map (readsOf ops) = plan) (hno : ¬ LetsOut Q) (hS : S w) (h : Chain P Q (fun a w => wpList P ops Q tl a w) a0 S fr (fr.zip plan) 0 []) : (Code.region id ops true).wpIn (Fence.wide.inRound l) n P Q a0 w := by
 subst hfr; subst htl; subst hplan
 unfold tailOk at hlast
 simp only [Bool.and_eq_true, decide_eq_true_eq] at hlast
 obtain ⟨hnf, hall⟩ := hlast
 have hdep : ∀ i, nf <= i -> i < ops.size -> ∀ j, j < i -> depB ops ops.size i j = true := fun i h1 h2 j hj => by
  have := all_range hall h2
  simp only [Bool.or_eq_true, decide_eq_true_eq] at this
  rcases this with h | h
  ·omega
  ·exact all_range h hj
 have hany : ∀ w, S w -> wpAny P .any ops Q ops.size (Array.replicate ops.size false) a0 w := fun w hS =>
  any_of_chain (K := fun a w => wpList P ops Q (ops.toList.drop nf) a w) (nf := nf) hSt hck hnf (.inr (.inr (.inr ⟨hnf, hdep, fun _ _ h => h⟩))) hS h
 exact wpIn_region_draw fun t => by
  simp only [Region.schedule, hm, Bool.true_or, if_true]
  exact ops_round hno (noDefer_of hnd) _ _ _ (wpAny_sound ops.size t _ a0 _ (hany w.drew (hSt w _ hS (Below.refl _ _).drew)))
end Go.Proofs.Ytpbbokdmoaadfaa
