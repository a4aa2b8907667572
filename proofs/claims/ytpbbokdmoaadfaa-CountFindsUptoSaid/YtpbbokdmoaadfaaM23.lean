/- Counting: a list so many times. Walked. -/
import Derived.Test.YtpbbokdmoaadfaaM22
import Derived.Laws.OwnMore
namespace Go.Proofs.Ytpbbokdmoaadfaa
set_option maxHeartbeats 64000000
set_option maxRecDepth 1000000
set_option linter.all false
open Go Go.RowKit
def tmK (x : Nat) (p : Nat × Nat) : Nat × Nat := (p.1, min 2 (p.2 * x))
def tmL (x k : Nat) (L : List (Nat × Nat)) : List (Nat × Nat) := (L.take k).map (tmK x) ++ L.drop k
theorem tmL_zero {x : Nat} {L : List (Nat × Nat)} : tmL x 0 L = L := by unfold tmL; simp
theorem tmL_length {x k : Nat} {L : List (Nat × Nat)} : (tmL x k L).length = L.length := by unfold tmL; rw [List.length_append, List.length_map, List.length_take, List.length_drop]; omega
theorem tmL_end {x : Nat} {L : List (Nat × Nat)} : tmL x L.length L = L.map (tmK x) := by unfold tmL; rw [List.take_length, List.drop_length, List.append_nil]
theorem tmL_at {x k : Nat} {L : List (Nat × Nat)} (h : k < L.length) : (tmL x k L).getD k (0, 0) = L.getD k (0, 0) := by
 unfold tmL
 have hl : ((L.take k).map (tmK x)).length = k := by rw [List.length_map, List.length_take]; omega
 rw [List.getD_eq_getElem?_getD, List.getD_eq_getElem?_getD, List.getElem?_append_right (by omega), hl, Nat.sub_self, List.getElem?_drop]; rfl
theorem tmL_step {x k : Nat} {L : List (Nat × Nat)} (h : k < L.length) : (tmL x k L).set k (tmK x (L.getD k (0, 0))) = tmL x (k + 1) L := by
 unfold tmL
 have hl : ((L.take k).map (tmK x)).length = k := by rw [List.length_map, List.length_take]; omega
 rw [List.set_append_right _ _ (by omega), hl, Nat.sub_self, take_snoc (d := (0, 0)) h, List.map_append, List.append_assoc]
 congr 1
 conv => lhs; rw [List.drop_eq_getElem_cons h]
 rfl
theorem tm_plF {x : Nat} {F : Nat -> Nat} (hx : 1 <= x) : ∀ {n : Nat}, (plF n F).map (tmK x) = plF n fun b => min 2 (F b * x)
 | 0 => rfl
 | n + 1 => by
  rw [plF_succ, List.map_append, tm_plF hx, plF_succ]
  congr 1
  by_cases h : F n = 0
  ·rw [if_pos h, if_pos (by rw [h]; simp)]; rfl
  ·have : 1 * 1 <= F n * x := Nat.mul_le_mul (by omega) hx
   rw [if_neg h, if_neg (by omega)]; rfl
theorem flatR_set (L : List (Nat × Nat)) (k : Nat) (p : Nat × Nat) (hp : (L.getD k (0, 0)).1 = p.1) (hk : k < L.length) : flatR (L.set k p) = (flatR L).set (k * 2 + 1) (.int .i64 (p.2 : Int)) := by
 apply List.ext_getElem?
 intro t
 by_cases ht : t < L.length * 2
 ·have hd : t / 2 < L.length := by omega
  have hm : t % 2 < 2 := Nat.mod_lt _ (by decide)
  have h1 := flatR_get (L.set k p) (t / 2) (t % 2) (by rw [List.length_set]; exact hd) hm
  have h2 := flatR_get L (t / 2) (t % 2) hd hm
  rw [show t / 2 * 2 + t % 2 = t by omega] at h1 h2
  rw [h1, List.getElem?_set]
  by_cases e : k = t / 2
  ·have e1 : (L.set k p).getD (t / 2) (0, 0) = p := by rw [List.getD_eq_getElem?_getD, <- e, List.getElem?_set_self hk]; rfl
   rw [e1]
   rcases (show t % 2 = 0 \/ t % 2 = 1 by omega) with h0 | h0
   ·rw [if_neg (by omega), h2, h0, <- e]
    unfold rcC
    rw [hp]; rfl
   ·rw [if_pos (by omega), if_pos (by rw [flatR_length]; omega), h0]; rfl
  ·have e1 : (L.set k p).getD (t / 2) (0, 0) = L.getD (t / 2) (0, 0) := by rw [List.getD_eq_getElem?_getD, List.getElem?_set_ne e, <- List.getD_eq_getElem?_getD]
   rw [e1, if_neg (by omega), h2]
 ·rw [List.getElem?_eq_none (by rw [flatR_length, List.length_set]; omega), List.getElem?_eq_none (by rw [List.length_set, flatR_length]; omega)]
theorem ownR_set {w : World} {base : Nat} {v : Value} {L : List (Nat × Nat)} (h : OwnR w base v L) {k : Nat} (hk : k < L.length) (y : Nat) : ∃ g cap, v = .slice (some ⟨g, 0, none⟩) L.length cap /\ base <= g /\ OwnR (w.setCell ⟨g, k * 2 + 1, none⟩ (.int .i64 (y : Int))) base v (L.set k ((L.getD k (0, 0)).1, y)) /\
 w.cell? ⟨g, k * 2 + 1, none⟩ = some (.int .i64 ((L.getD k (0, 0)).2 : Int)) /\ w.frozen? ⟨g, k * 2 + 1, none⟩ = false := by
 obtain ⟨h0, ⟨hv, hn⟩ | ⟨g, cap, cur, hv, hb, hg, hc, hm, hs, ht⟩⟩ := h
 ·omega
 ·have hk2 : Blk w g cur 92 := hg
  have hs2 := hk2.setCell (k * 2 + 1) (.int .i64 (y : Int))
  refine ⟨g, cap, hv, hb, ⟨by rw [List.length_set, flatR_length, List.length_set], .inr ⟨g, cap, _, by rw [List.length_set]; exact hv, hb, hs2, by rw [List.length_set]; exact hc, hm, by rw [Array.size_setIfInBounds]; exact hs, ?_⟩⟩, ?_, hk2.frozen _⟩
  ·rw [List.length_set, flatR_set L k ((L.getD k (0, 0)).1, y) rfl hk, <- ht, Array.toList_setIfInBounds, List.take_set]
  ·rw [hk2.cell, <- Array.getElem?_toList]
   have := flatR_get L k 1 hk (by decide)
   rw [<- ht, List.getElem?_take, if_pos (by omega)] at this
   rw [this]; rfl
def TmL (w0 : World) (x : Nat) (L : List (Nat × Nat)) (v i : Value) (w : World) : Prop := ∃ k : Nat, k <= L.length /\ i = .int .i64 (k : Int) /\ OwnR w w0.heap.size v (tmL x k L) /\ Below w0.heap.size w0 w
theorem ctimes_any (n x : Nat) (v : Value) (F : Nat -> Nat) (w : World) (hv : IsR w v (plF n F)) (hn : n <= 1000) (hx : 1 <= x) (hx2 : x <= 2) (hF : ∀ b, F b <= 2) :
 Calls Try.prog 73 #[v, .int .i64 (x : Int)] w (OldP w (plF n fun b => min 2 (x * F b)) v) := by
 have hfe : (fun b => min 2 (x * F b)) = fun b => min 2 (F b * x) := by funext b; rw [Nat.mul_comm]
 rw [hfe]
 clear hfe
 have hlen := plF_length (F := F) (n := n)
 by_cases h1 : x = 1
 ·subst h1
  have HP : Hid (OldP w (plF n fun b => min 2 (F b * 1)) v (.returned v) w) := ⟨v, rfl, by rw [plF_congr (G := F) fun b _ => by rw [Nat.mul_one]; have := hF b; omega]; exact hv, Below.refl _ _, .inl rfl⟩
  obtain ⟨A, c, rfl, hlc, hr⟩ := hv
  have hz : (((1 : Nat) : Int) == 1) = true := rfl
  generalize (plF n F).length = z at *
  clear hr
  go_enter Try.func73, Try.ntmps73
  go_wp2
  go_ret
  exact HP.out
 ·obtain rfl : x = 2 := by omega
  clear h1
  have hz : (((2 : Nat) : Int) == 1) = false := rfl
  have HC := Lib.hid (cclone_any v (plF n F) (by omega) w hv)
  obtain ⟨A, c, rfl, hlc, hr⟩ := hv
  have HE : Hid (tmL 2 (plF n F).length (plF n F) = plF n fun b => min 2 (F b * 2)) := by unfold Hid; rw [tmL_end, tm_plF (n := n) (by omega)]
  have HT : Hid (∀ k, k < (plF n F).length -> ((plF n F).getD k (0, 0)).2 <= 2) := fun k hk => by
   have hm : (plF n F).getD k (0, 0) ∈ plF n F := by rw [List.getD_eq_getElem?_getD, List.getElem?_eq_getElem hk]; exact List.getElem_mem _
   have := (mem_plF.1 hm).2.1
   rw [<- this]; exact hF _
  generalize plF n (fun b => min 2 (F b * 2)) = M at *
  generalize plF n F = L at *
  have hlz : (L.length : Int) <= 1000 := by omega
  clear hr hlc hF hlen
  go_enter Try.func73, Try.ntmps73
  go_wp2_with fail
  refine HC.out.mono ?_; rintro e w2 ⟨r, rfl, ho, hb⟩
  have HS0 : Hid (TmL w 2 L r (.int .i64 0) w2) := ⟨0, Nat.zero_le _, rfl, by rw [tmL_zero]; exact ho, hb⟩
  obtain ⟨a7, c7, hv7, -⟩ := ho.isR
  subst hv7
  clear ho hb HC
  go_wp2
  go_loopw [14] (fun i w' => TmL w 2 L (.slice a7 L.length c7) i w') (fun i _ => L.length - (intOf i).toNat)
  case atStart => exact HS0.out
  case round =>
   obtain ⟨k, hk, rfl, ho, hb⟩ := hrel
   have HO := Lib.hid ho
   have HB := Lib.hid hb
   clear ho hb HS0
   by_cases hlt : k < L.length
   ·have hltz : (k : Int) < (L.length : Int) := by omega
    have hlt2 : k < (tmL 2 k L).length := by rw [tmL_length]; exact hlt
    have hq2 := HT.out k hlt
    obtain ⟨g, cap, hvv, hbg, hset, hcl, hfz⟩ := ownR_set HO.out hlt2 (min 2 ((L.getD k (0, 0)).2 * 2))
    rw [tmL_at hlt] at hcl hset
    have HST : Hid (OwnR (wr.setCell ⟨g, k * 2 + 1, none⟩ (.int .i64 ((min 2 ((L.getD k (0, 0)).2 * 2) : Nat) : Int))) w.heap.size (.slice a7 L.length c7) (tmL 2 (k + 1) L)) := by
     have := hset
     rw [show ((L.getD k (0, 0)).1, min 2 ((L.getD k (0, 0)).2 * 2)) = tmK 2 (L.getD k (0, 0)) from rfl, tmL_step hlt] at this
     exact this
    have HB2 : Hid (Below w.heap.size w (wr.setCell ⟨g, k * 2 + 1, none⟩ (.int .i64 ((min 2 ((L.getD k (0, 0)).2 * 2) : Nat) : Int)))) := HB.out.setCell (p := ⟨g, k * 2 + 1, none⟩) hbg _
    rw [tmL_length] at hvv
    obtain ⟨rfl, -, rfl⟩ := Value.slice.inj hvv
    generalize (L.getD k (0, 0)).2 = q at *
    have HM := Lib.hid (fun w' => cmost_any (q * 2) (by omega) w')
    have hq2z : ((q * 2 : Nat) : Int) = (q : Int) * 2 := by omega
    have hqz : (q : Int) <= 2 := by omega
    rw [hq2z] at HM
    generalize hmn : min 2 (q * 2) = mn at *
    clear hset hvv hbg hmn hlt2 hq2z
    go_wp2_with fail
    refine (HM.out _).mono ?_; rintro e w4 ⟨rfl, rfl⟩
    clear HM
    go_wp2
    go_roundw
    case rel => exact ⟨k + 1, by omega, by go_num, HST.out, HB2.out⟩
    case measure => simp [intOf]; omega
   ·obtain rfl : k = L.length := by omega
    have hlast : ¬ ((L.length : Nat) : Int) < (L.length : Int) := by omega
    have HPF : Hid (OldP w M (.slice A L.length c) (.returned (.slice a7 L.length c7)) wr) := ⟨_, rfl, by rw [<- HE.out]; exact HO.out.isR, HB.out, .inr HO.out.nw⟩
    clear HO HB
    go_wp2
    go_ret
    exact HPF.out
theorem or_add (x y : Nat) (hx : x < 4294967296) (hy : y < 256) : bits .or .i64 ((x * 256 : Nat) : Int) (y : Int) = ((x * 256 + y : Nat) : Int) := by
 have ho : x * 256 ||| y = x * 256 + y := by
  have := Nat.two_pow_add_eq_or_of_lt (i := 8) (b := y) (by omega) x
  rw [show (2 : Nat) ^ 8 = 256 from rfl] at this
  rw [Nat.mul_comm x 256, <- this]
 have h1 : (BitVec.ofInt 64 ((x * 256 : Nat) : Int)).toNat = x * 256 := by
  rw [BitVec.ofInt_natCast, BitVec.toNat_ofNat]; exact Nat.mod_eq_of_lt (by omega)
 have h2 : (BitVec.ofInt 64 (y : Int)).toNat = y := by
  rw [BitVec.ofInt_natCast, BitVec.toNat_ofNat]; exact Nat.mod_eq_of_lt (by omega)
 show IntKind.i64.wrap ((BitVec.ofInt 64 ((x * 256 : Nat) : Int) ||| BitVec.ofInt 64 (y : Int)).toNat : Int) = _
 rw [BitVec.toNat_or, h1, h2, ho, IntKind.wrap_i64]
 omega
def hdV (W : Wd) (a : Nat) : Nat -> Nat
 | 0 => 0
 | k + 1 => hdV W a k * 256 + (W.getD (a + k) 0).toNat
theorem hdV_two {W : Wd} {a k : Nat} (h : k <= 2) : hdV W a k < 65536 := by
 have h0 := (W.getD (a + 0) 0).toNat_lt
 have h1 := (W.getD (a + 1) 0).toNat_lt
 rcases (show k = 0 \/ k = 1 \/ k = 2 by omega) with rfl | rfl | rfl
 ·show 0 < 65536; decide
 ·show 0 * 256 + (W.getD (a + 0) 0).toNat < _; omega
 ·show (0 * 256 + (W.getD (a + 0) 0).toNat) * 256 + (W.getD (a + 1) 0).toNat < _; omega
def FeL (W : Wd) (a head : Nat) (w0 : World) (x i : Value) (w : World) : Prop := ∃ k : Nat, k <= head /\ i = .int .i64 (k : Int) /\ x = .int .i64 ((hdV W a k : Nat) : Int) /\ w = w0
theorem frE_some {W : Wd} {head a : Nat} (hh : head = 1 \/ head = 2) (h : a + head <= W.length) : frE W head a = if a + head + hdV W a head <= W.length then some (a + head + hdV W a head) else none := by
 unfold frE
 rw [if_pos h]
 have e : (if head = 1 then (W.getD a 0).toNat else 256 * (W.getD a 0).toNat + (W.getD (a + 1) 0).toNat) = hdV W a head := by
  rcases hh with rfl | rfl
  ·rw [if_pos rfl]; show _ = 0 * 256 + (W.getD (a + 0) 0).toNat; simp only [Nat.add_zero]; omega
  ·rw [if_neg (by decide)]; show _ = (0 * 256 + (W.getD (a + 0) 0).toNat) * 256 + (W.getD (a + 1) 0).toNat; simp only [Nat.add_zero]; omega
 simp only [e]
def feX (W : Wd) (head a : Nat) : Int := if a + head <= W.length then ((a + head + hdV W a head : Nat) : Int) else 0
theorem feX_some {W : Wd} {head a e : Nat} (hh : head = 1 \/ head = 2) (h : frE W head a = some e) : feX W head a = (e : Int) := by
 by_cases h1 : a + head <= W.length
 ·rw [frE_some hh h1] at h
  unfold feX
  rw [if_pos h1]
  split at h
  ·rw [Option.some.inj h]
  ·cases h
 ·unfold frE at h; rw [if_neg h1] at h; cases h
def FeP (W : Wd) (a head : Nat) (w : World) (e : Ending) (w' : World) : Prop := e = .returned (.tuple #[.int .i64 (feX W head a), .bool (frE W head a).isSome]) /\ w' = w
theorem cframeEnd_any (W : Wd) (u : Value) (a head : Nat) (w : World) (hu : IsW W u w) (hh : head = 1 \/ head = 2) (ha : a <= W.length) (hW : W.length <= 1000000) :
 Calls Try.prog 84 #[u, .int .i64 (a : Int), .int .i64 ((a + head : Nat) : Int)] w (FeP W a head w) := by
 by_cases h : a + head <= W.length
 ·have HFE := Lib.hid (frE_some hh h)
  have HFX : Hid (feX W head a = ((a + head + hdV W a head : Nat) : Int)) := by unfold Hid feX; rw [if_pos h]
  rcases hu with ⟨rfl, rfl⟩ | ⟨b, off, cap, rfl, h2, h5, h3, h4⟩
  ·have : a + head <= 0 := h
   omega
  ·have hz : ¬ ((a + head : Nat) : Int) > (W.length : Int) := by omega
   have hca : ¬ cap = a := by omega
   have hn1 : ((a + head : Nat) : Int) <= (cap : Int) := by omega
   have hn2 : (a : Int) <= ((a + head : Nat) : Int) := by omega
   have HC : Hid (∀ k, k < head -> w.cell? ⟨b, off + a + k, none⟩ = some (.int .u8 (((W.getD (a + k) 0).toNat : Nat) : Int))) := fun k hk => by
    have := h4 (a + k) (by omega)
    rwa [<- Nat.add_assoc] at this
   have hsub0 : a + head - a = head := by omega
   have hsum0 : a + head = a + head := rfl
   have hh2 : head <= 2 := by omega
   have HBT : Hid (∀ k, k <= 2 -> hdV W a k < 65536) := fun k hk => hdV_two hk
   generalize hfr : a + head = fr at *
   have hfrW : fr <= W.length := h
   have HFR := Lib.hid hfr
   clear h h4 hfr hsum0
   go_enter Try.func84, Try.ntmps84
   go_wp2
   go_loopw [8, 20] (FeL W a head w) (fun _ i _ => head - (intOf i).toNat)
   case atStart => exact ⟨0, Nat.zero_le _, rfl, rfl, rfl⟩
   case round =>
    obtain ⟨k, hk, rfl, rfl, hwe⟩ := hrel
    replace hwe := hwe.symm
    subst hwe
    by_cases hlt : k < head
    ·have hltz : (k : Int) < (head : Int) := by omega
     have hc := HC.out k hlt
     have hx := HBT.out k (by omega)
     have HN : Hid (hdV W a (k + 1) = hdV W a k * 256 + (W.getD (a + k) 0).toNat) := rfl
     have hy := (W.getD (a + k) 0).toNat_lt
     generalize hdV W a k = x at *
     generalize (W.getD (a + k) 0).toNat = y at *
     have hor : bits .or .i64 ((x : Int) * 256) (y : Int) = ((x * 256 + y : Nat) : Int) := by
      have := or_add x y (by omega) (by omega)
      rwa [show ((x * 256 : Nat) : Int) = (x : Int) * 256 by omega] at this
     generalize hx3 : x * 256 + y = x3 at *
     have hx3b : x3 < 16777216 := by omega
     clear hx3
     clear HFE
     go_wp2
     go_roundw
     case rel => exact ⟨k + 1, by omega, by go_num, by rw [HN.out], rfl⟩
     case measure => simp [intOf]; omega
    ·obtain rfl : k = head := by omega
     have hlast : ¬ ((k : Nat) : Int) < (k : Int) := by omega
     have hx := HBT.out k (by omega)
     generalize hdV W a k = x at *
     have hfxz : ((fr + x : Nat) : Int) = (fr : Int) + (x : Int) := by omega
     by_cases hle : fr + x <= W.length
     ·have hd : (x : Int) <= (W.length : Int) - (fr : Int) := by omega
      rw [if_pos hle] at HFE
      have HP : Hid (FeP W a k w (.returned (.tuple #[.int .i64 ((fr : Int) + (x : Int)), .bool true])) w) := by
       unfold Hid FeP
       rw [HFE.out]
       rw [HFX.out, hfxz]
       exact ⟨rfl, rfl⟩
      clear HFE
      go_wp2
      go_ret2
      exact HP.out
     ·have hd : ¬ (x : Int) <= (W.length : Int) - (fr : Int) := by omega
      rw [if_neg hle] at HFE
      have HP : Hid (FeP W a k w (.returned (.tuple #[.int .i64 ((fr : Int) + (x : Int)), .bool false])) w) := by
       unfold Hid FeP
       rw [HFE.out]
       rw [HFX.out, hfxz]
       exact ⟨rfl, rfl⟩
      clear HFE
      go_wp2
      go_ret2
      exact HP.out
 ·have HFE : Hid (FeP W a head w (.returned (.tuple #[.int .i64 0, .bool false])) w) := by
   have e : frE W head a = none := by unfold frE; rw [if_neg h]
   unfold Hid FeP feX
   rw [e, if_neg h]
   exact ⟨rfl, rfl⟩
  obtain ⟨A, c, rfl, hc⟩ := hu.len
  have hz : ((a + head : Nat) : Int) > (W.length : Int) := by omega
  clear h hu
  generalize a + head = fr at *
  go_enter Try.func84, Try.ntmps84
  go_wp2
  go_ret2
  exact HFE.out
def UtP (w0 : World) (A : Option Addr) (l : List Nd) (c : Nat) (W : Wd) (m : Nat) (e : Ending) (w : World) : Prop := ∃ rb u, e = .returned (.pointer (some ⟨rb, 0, none⟩)) /\ Rdb rb A l c u W m w /\ Below w0.heap.size w0 w /\ w0.heap.size <= rb
theorem cupTo_any (rb : Nat) (A : Option Addr) (l : List Nd) (c : Nat) (uw : Value) (W : Wd) (m k : Nat) (w : World) (hr : Rdb rb A l c uw W m w) (hk : k <= W.length) :
 Calls Try.prog 51 #[.pointer (some ⟨rb, 0, none⟩), .int .i64 (k : Int)] w (UtP w A l c (W.take k) m) := by
 obtain ⟨Au, cu, rfl, hcu⟩ := hr.wd.len
 have hkc : (k : Int) <= (cu : Int) := by omega
 have hb0 := hr.blk.cell 0
 have hb1 := hr.blk.cell 1
 have hb2 := hr.blk.cell 2
 simp at hb0 hb1 hb2
 have hb3 := (Below.refl w.heap.size w).alloc (Nat.le_refl _) (.cells #[.slice A l.length c, .slice Au k cu, .map (some m)] 76)
 have HP : Hid (UtP w A l c (W.take k) m (.returned (.pointer (some ⟨w.heap.size, 0, none⟩))) (w.alloc (.cells #[.slice A l.length c, .slice Au k cu, .map (some m)] 76)).drew) := ⟨_, _, rfl, Rdb.later ⟨Blk.new w _ _, hr.row.later hb3, (hr.wd.taken hk).later hb3⟩ (Below.refl _ _).drew, hb3.drew, Nat.le_refl _⟩
 clear hr hb3
 go_enter Try.func51, Try.ntmps51
 go_upto_region 1 with (fail)
 go_region
 go_wp2
 go_ret
 exact HP.out
def NrP (w0 : World) (A : Option Addr) (l : List Nd) (c : Nat) (W : Wd) (e : Ending) (w : World) : Prop := ∃ rb u m, e = .returned (.pointer (some ⟨rb, 0, none⟩)) /\ Rdb rb A l c u W m w /\ IsMapR w m [] /\ Below w0.heap.size w0 w /\ w0.heap.size <= m
theorem cnewReader_any (A : Option Addr) (l : List Nd) (c : Nat) (uw : Value) (W : Wd) (w : World) (hrow : NRow w A l) (hw : IsW W uw w) :
 Calls Try.prog 29 #[.agg #[.slice A l.length c], uw] w (NrP w A l c W) := by
 have hmm := @run_makeMap Try.prog
 have hb1 := (Below.refl w.heap.size w).alloc (Nat.le_refl _) (.cells #[.slice A l.length c] 24)
 have e0 := (Blk.new w #[.slice A l.length c] 24).cell 0
 simp at e0
 have hb2 := hb1.alloc (by simp) (.map #[] 0)
 have hb3 := hb2.alloc (by simp; omega) (.cells #[.slice A l.length c, uw, .map (some (w.heap.size + 1))] 76)
 have hrow3 := hrow.later hb3
 have hw3 := hw.later hb3
 have hm2 : IsMapR ((w.alloc (.cells #[.slice A l.length c] 24)).alloc (.map #[] 0)) (w.heap.size + 1) [] := by
  unfold IsMapR mapEsR
  show ((w.heap.push _).push _)[w.heap.size + 1]? = _
  rw [Array.getElem?_push, if_pos (by simp)]; rfl
 have hb4 := (Below.refl ((w.alloc (.cells #[.slice A l.length c] 24)).alloc (.map #[] 0)).heap.size _).alloc (Nat.le_refl _) (.cells #[.slice A l.length c, uw, .map (some (w.heap.size + 1))] 76)
 have HP : Hid (NrP w A l c W (.returned (.pointer (some ⟨w.heap.size + 2, 0, none⟩))) (((w.alloc (.cells #[.slice A l.length c] 24)).alloc (.map #[] 0)).alloc (.cells #[.slice A l.length c, uw, .map (some (w.heap.size + 1))] 76))) :=
  ⟨_, uw, w.heap.size + 1, rfl, ⟨Blk.new' (by simp) _ _, hrow3, hw3⟩, (hb4.block _ hm2.lt).trans hm2, hb3, by omega⟩
 obtain ⟨Au, cu, rfl, hcu⟩ := hw.len
 clear hrow hw hb1 hb2 hb3 hrow3 hw3 hm2 hb4
 go_enter Try.func29, Try.ntmps29
 go_wp2
 go_ret
 exact HP.out
def prtN (n : Nd) : List Nat := if n.kind = 4 \/ n.kind = 5 then [n.a.toNat, n.b.toNat] else if n.kind = 6 \/ n.kind = 7 \/ n.kind = 8 \/ n.kind = 9 then [n.a.toNat] else []
theorem prtN_length {n : Nd} : (prtN n).length = ptsN n.kind := by unfold prtN ptsN; split; rfl; split <;> rfl
theorem prt_cs {l : List Nd} (hF : Form l) {i : Nat} (hi : i < l.length) {p : Nat} (hp : p ∈ prtN (atN l i)) : p < i /\ firstP l i <= p /\ (p + 1 = i \/ p + 1 = firstP l (i - 1) /\ (atN l i).a.toNat = p /\ ((atN l i).kind = 4 \/ (atN l i).kind = 5)) /\ (((p : Int) = (atN l i).a) \/ (p : Int) = (atN l i).b) := by
 have hcs := (hF.2.1 i hi).cs rfl
 unfold prtN at hp
 cases hcs with
 | leaf h1 hf => unfold leafK at h1; rw [if_neg (by omega), if_neg (by omega)] at hp; cases hp
 | one h1 hi0 ha hb h7 hr hcl hf =>
  rw [if_neg (by omega), if_pos (by omega), List.mem_singleton] at hp
  have h0 : p + 1 = i := by omega
  rw [firstP_go (by unfold partK; omega) (by omega) (by omega), <- hp]
  have := firstP_le l p
  exact ⟨by omega, this, .inl h0, .inl (by omega)⟩
 | two h1 hi0 hb ha hf0 hl hcl hf =>
  rw [if_pos (by omega)] at hp
  have hfa := firstP_go (l := l) (i := i) (by unfold partK; omega) (by omega) (by have := firstP_le l (i - 1); omega)
  have hle := firstP_le l (atN l i).a.toNat
  have hle2 := firstP_le l (i - 1)
  have hbn : (atN l i).b.toNat = i - 1 := by omega
  rcases List.mem_cons.1 hp with e | e
  ·subst e
   exact ⟨by omega, by rw [hfa]; exact hle, .inr ⟨by omega, rfl, h1⟩, .inl (by omega)⟩
  ·rw [List.mem_singleton] at e
   subst e
   exact ⟨by omega, by rw [hfa]; omega, .inl (by omega), .inr (by omega)⟩
theorem prt_once {l : List Nd} (hF : Form l) {i k : Nat} (hi : i < l.length) (hk : k < i) {p : Nat} (h1 : p ∈ prtN (atN l k)) (h2 : p ∈ prtN (atN l i)) : False := by
 obtain ⟨a1, a2, a3, -⟩ := prt_cs hF (by omega) h1
 obtain ⟨b1, b2, b3, -⟩ := prt_cs hF hi h2
 rcases b3 with b3 | ⟨b3, -, -⟩
 ·omega
 ·have := first_in (hF.okTo (show i - 1 < l.length by omega)) k (by omega) (by omega)
  omega
theorem prt_two {l : List Nd} (hF : Form l) {i : Nat} (hi : i < l.length) (h : (prtN (atN l i)).length = 2) : (prtN (atN l i)).getD 0 0 ≠ (prtN (atN l i)).getD 1 0 := by
 have hcs := (hF.2.1 i hi).cs rfl
 cases hcs with
 | leaf h1 hf => unfold leafK at h1; rw [prtN_length] at h; unfold ptsN at h; rw [if_neg (by omega), if_neg (by omega)] at h; omega
 | one h1 hi0 ha hb h7 hr hcl hf => rw [prtN_length] at h; unfold ptsN at h; rw [if_neg (by omega), if_pos (by omega)] at h; omega
 | two h1 hi0 hb ha hf0 hl hcl hf =>
  unfold prtN
  rw [if_pos (by omega)]
  have hle2 := firstP_le l (i - 1)
  show (atN l i).a.toNat ≠ (atN l i).b.toNat
  have hbn : (atN l i).b.toNat = i - 1 := by omega
  have hb2 : ((atN l i).b.toNat : Int) = (atN l i).b := by omega
  omega
def boC (T : List Bool) : Array Value := (T.map Value.bool).toArray
theorem boC_at {T : List Bool} {j : Nat} (h : j < T.length) : (boC T)[j]? = some (.bool (T.getD j false)) := by unfold boC; simp [h]
theorem boC_set {T : List Bool} {j : Nat} {b : Bool} : (boC T).setIfInBounds j (.bool b) = boC (T.set j b) := by
 unfold boC
 apply Array.ext'
 rw [Array.toList_setIfInBounds, List.map_set]
theorem made_bo (n : Nat) : madeCells #[Value.bool false] n = boC (List.replicate n false) := by
 unfold madeCells boC
 apply Array.ext
 ·simp
 ·intro i h1 h2
  simp [Nat.mod_one]
structure OdS (w0 : World) (tb : Nat) (A : Option Addr) (l : List Nd) (T : List Bool) (w : World) : Prop where
 bel : Below w0.heap.size w0 w
 low : w0.heap.size <= tb
 tk : Blk w tb (boC T) 4
 row : NRow w A l
 len : T.length = l.length
theorem OdS.later {w0 w w' : World} {tb : Nat} {A : Option Addr} {l : List Nd} {T : List Bool} (h : OdS w0 tb A l T w) (hb : Below w.heap.size w w') : OdS w0 tb A l T w' := ⟨h.bel.trans (hb.mono h.bel.size), h.low, h.tk.later hb, h.row.later hb, h.len⟩
structure OdB (w0 : World) (tb : Nat) (A : Option Addr) (l : List Nd) (T : List Bool) (bx : Nat) (n : Nd) (w : World) : Prop where
 s : OdS w0 tb A l T w
 x : Blk w bx (ndC n) 44
theorem OdB.later {w0 w w' : World} {tb : Nat} {A : Option Addr} {l : List Nd} {T : List Bool} {bx : Nat} {n : Nd} (h : OdB w0 tb A l T bx n w) (hb : Below w.heap.size w w') : OdB w0 tb A l T bx n w' := ⟨h.s.later hb, h.x.later hb⟩
def OdT (l : List Nd) (i : Nat) (P : List Nat) (T : List Bool) : Prop := ∀ j, T.getD j false = true -> (∃ k, k < i /\ j ∈ prtN (atN l k)) \/ j ∈ P
def OdL (w0 : World) (tb : Nat) (A : Option Addr) (l : List Nd) (x : Value) (w : World) : Prop := ∃ (i : Nat) (T : List Bool), i <= l.length /\ x = .int .i64 (i : Int) /\ OdT l i [] T /\ OdS w0 tb A l T w
def OdI (w0 : World) (tb : Nat) (A : Option Addr) (l : List Nd) (i nb : Nat) (a b : Int) (x : Value) (w : World) : Prop := ∃ (k : Nat) (T : List Bool), k <= (prtN (atN l i)).length /\ x = .int .i64 (k : Int) /\ OdT l i ((prtN (atN l i)).take k) T /\ OdS w0 tb A l T w /\ Blk w nb #[.int .i64 a, .int .i64 b] 3
def BuV (a b : Int) (v : Value) (w : World) : Prop := ∃ g, v = .slice (some ⟨g, 0, none⟩) 2 2 /\ Blk w g #[.int .i64 a, .int .i64 b] 3
theorem BuV.later (a b : Int) : ∀ v w w', BuV a b v w -> Below w.heap.size w w' -> BuV a b v w' := fun v w w' ⟨g, h1, h2⟩ hb => ⟨g, h1, h2.later hb⟩
def SlV (a b : Int) (n : Nat) (v : Value) (w : World) : Prop := ∃ g, v = .slice (some ⟨g, 0, none⟩) n 2 /\ Blk w g #[.int .i64 a, .int .i64 b] 3
theorem SlV.later (a b : Int) (n : Nat) : ∀ v w w', SlV a b n v w -> Below w.heap.size w w' -> SlV a b n v w' := fun v w w' ⟨g, h1, h2⟩ hb => ⟨g, h1, h2.later hb⟩
theorem cordered_any (A : Option Addr) (l : List Nd) (c : Nat) (hF : Form l) (hl : l.length <= 4096) (w : World) (hrow : NRow w A l) :
 Calls Try.prog 28 #[.slice A l.length c] w (Ans w (.bool true)) := by
 have hmk : ∀ W : World, (Instr.makeSlice 66 (.int .i64 (l.length : Int)) (.int .i64 (l.length : Int))).run Try.prog W = .ok (.slice (some ⟨W.heap.size, 0, none⟩) l.length l.length) (W.alloc (.cells (boC (List.replicate l.length false)) 4)) := fun W => by
  rw [<- made_bo]
  exact run_make_row' 66 _ _ 1 Try.underlying66 (by kernel_rfl) rfl .i64 .i64 l.length (by omega) (by omega) W
 have hpos := hF.1
 have HF := Lib.hid hF
 have hr0 := Lib.hid hrow
 have hb1 := (Below.refl w.heap.size w).alloc (Nat.le_refl _) (.cells (boC (List.replicate l.length false)) 4)
 have HS0 : Hid (OdL w w.heap.size A l (.int .i64 0) (w.alloc (.cells (boC (List.replicate l.length false)) 4))) := ⟨0, List.replicate l.length false, Nat.zero_le _, rfl, (fun j hj => by
  rw [List.getD_eq_getElem?_getD, List.getElem?_replicate] at hj
  split at hj <;> cases hj), hb1, Nat.le_refl _, Blk.new w _ _, hrow.later hb1, List.length_replicate⟩
 have hlz : (l.length : Int) <= 4096 := by omega
 have hposz : (l.length : Int) > 0 := by omega
 clear hrow hb1 hF
 go_enter Try.func28, Try.ntmps28
 go_upto_region 2 with (fail)
 clear hmk
 generalize w.alloc (.cells (boC (List.replicate l.length false)) 4) = w1 at *
 go_wp2
 go_loopw [13] (OdL w w.heap.size A l) (fun x _ => l.length - (intOf x).toNat)
 case atStart => exact HS0.out
 case round =>
  obtain ⟨i, T, hi, rfl, hT, hs⟩ := hrel
  have HT := Lib.hid hT
  have HS := Lib.hid hs
  clear hT hs HS0
  by_cases hlt : i < l.length
  ·have hltz : (i : Int) < (l.length : Int) := by omega
   obtain ⟨ba, oa, hAe, -, -⟩ := HS.out.row i hlt
   subst hAe
   have g : At10 wr ba (oa + i * 10) (l.getD i nd0) := HS.out.row.at hlt rfl
   have HN : Hid (atN l i = l.getD i nd0) := rfl
   have HPL := Lib.hid (prtN_length (n := atN l i))
   have HPC := Lib.hid (fun p (hp : p ∈ prtN (atN l i)) => prt_cs HF.out hlt hp)
   have HAB : Hid (∀ k, k < (prtN (atN l i)).length -> (#[.int .i64 (atN l i).a, .int .i64 (atN l i).b] : Array Value)[k]? = some (.int .i64 (((prtN (atN l i)).getD k 0 : Nat) : Int))) := fun k hk => by
    have hcs := (HF.out.2.1 i hlt).cs rfl
    have hle2 := firstP_le l (i - 1)
    cases hcs with
    | leaf h1 hf => unfold leafK at h1; rw [prtN_length] at hk; unfold ptsN at hk; rw [if_neg (by omega), if_neg (by omega)] at hk; omega
    | one h1 hi0 ha hb h7 hr hcl hf =>
     unfold prtN at hk ⊢
     rw [if_neg (by omega), if_pos (by omega)] at hk ⊢
     have hk : k < 1 := hk
     obtain rfl : k = 0 := by omega
     show some (Value.int .i64 (atN l i).a) = some (.int .i64 ((atN l i).a.toNat : Int))
     rw [Int.toNat_of_nonneg (by omega)]
    | two h1 hi0 hb ha hf0 hl hcl hf =>
     unfold prtN at hk ⊢
     rw [if_pos (by omega)] at hk ⊢
     have hk : k < 2 := hk
     rcases (show k = 0 \/ k = 1 by omega) with rfl | rfl
     ·show some (Value.int .i64 (atN l i).a) = some (.int .i64 ((atN l i).a.toNat : Int))
      rw [Int.toNat_of_nonneg (by omega)]
     ·show some (Value.int .i64 (atN l i).b) = some (.int .i64 ((atN l i).b.toNat : Int))
      rw [Int.toNat_of_nonneg (by omega)]
   rw [HN.out] at HPL HAB
   generalize l.getD i nd0 = n at *
   have hb3 := (Below.refl wr.heap.size wr).alloc (Nat.le_refl _) (.cells (ndC n) 44)
   have HX3 : Hid (OdB w w.heap.size (some ⟨ba, oa, none⟩) l T wr.heap.size n (wr.alloc (.cells (ndC n) 44))) := ⟨HS.out.later hb3, Blk.new wr _ _⟩
   clear hb3 HS
   obtain ⟨kk, na, nb, nlo, nhi, ncls, ntext⟩ := n
   unfold At10 at g
   simp only at g HAB HPL
   obtain ⟨g0, g1, g2, g3, g4, g5, g6, g7, g8, g9⟩ := g
   unfold ndC at HX3
   simp only at HX3
   go_upto_region 5 with (fail)
   clear g0 g1 g2 g3 g4 g5 g6 g7 g8 g9
   generalize wr.alloc (.cells #[.int .i64 kk, .int .i64 na, .int .i64 nb, .int .i64 nlo, .int .i64 nhi, .int .u64 (wd ncls 0), .int .u64 (wd ncls 1), .int .u64 (wd ncls 2), .int .u64 (wd ncls 3), .string (bs ntext)] 44) = w3 at *
   generalize wr.heap.size = bx at *
   have HCP := Lib.hid (fun w' => cparts_any kk w')
   have hnp : ptsN kk <= 2 := by unfold ptsN; split; omega; split <;> omega
   generalize ptsN kk = np at *
   have hnpz : (np : Int) <= 2 := by omega
   refine wp_region_stable (S := (OdB w w.heap.size (some ⟨ba, oa, none⟩) l T bx ⟨kk, na, nb, nlo, nhi, ncls, ntext⟩)) (hSt := fun _ _ h hb => h.later hb) (plan := [[(5, none)], [(18, some 0)], [(5, none)], [(20, some 2)], [(19, some 1), (21, some 3)], [(5, none)], [(23, some 5)], [(24, some 6)], [(22, some 4), (25, some 7)], [(26, some 8)], []]) (by kernel_rfl) (by kernel_rfl) (by kernel_rfl) ?hS ?_
   rotate_left
   iterate 4 first
    | (refine chain_skip (by rfl) (by rfl) ?_)
    | (apply chain_want (by rfl)
       ·intro act wx hS hr
        simp at hr
        obtain ⟨g0, g1, g2, g3, g4, g5, g6, g7, g8, g9⟩ := ten_cells hS.x
        go_simp
        (try go_ints)
        first
         | ((with_reducible refine (HCP.out _).mono ?_); rintro e w5 ⟨rfl, rfl⟩; exact Done.same)
         | (obtain ⟨v, hr2, b, rfl, hk⟩ := hr; simp only [hr2, Option.getD_some]; go_simp; exact Done.same)
         | exact Done.same
      )
   (refine chain_rel (BuV na nb) (BuV.later na nb) (by rfl) ?_ ?_
    ·intro act wx hS hr
     simp at hr
     obtain ⟨g0, g1, g2, g3, g4, g5, g6, g7, g8, g9⟩ := ten_cells hS.x
     all_goals go_simp
     exact Done.rel ((Below.refl _ _).alloc (Nat.le_refl _) _) ⟨_, rfl, Blk.new wx _ _⟩
   )
   iterate 3 first
    | (refine chain_skip (by rfl) (by rfl) ?_)
    | (apply chain_want (by rfl)
       ·intro act wx hS hr
        simp at hr
        obtain ⟨g0, g1, g2, g3, g4, g5, g6, g7, g8, g9⟩ := ten_cells hS.x
        go_simp
        (try go_ints)
        first
         | ((with_reducible refine (HCP.out _).mono ?_); rintro e w5 ⟨rfl, rfl⟩; exact Done.same)
         | (obtain ⟨v, hr2, b, rfl, hk⟩ := hr; simp only [hr2, Option.getD_some]; go_simp; exact Done.same)
         | exact Done.same
      )
   (refine chain_rel (SlV na nb np) (SlV.later na nb np) (by rfl) ?_ ?_
    ·intro act wx hS hr
     simp at hr
     obtain ⟨g0, g1, g2, g3, g4, g5, g6, g7, g8, g9⟩ := ten_cells hS.x
     obtain ⟨⟨v, hr2, b, rfl, hk⟩, hr3⟩ := hr
     all_goals go_simp
     exact Done.rel (Below.refl _ _) ⟨b, rfl, hk⟩
   )
   iterate 2 first
    | (refine chain_skip (by rfl) (by rfl) ?_)
    | (apply chain_want (by rfl)
       ·intro act wx hS hr
        simp at hr
        obtain ⟨g0, g1, g2, g3, g4, g5, g6, g7, g8, g9⟩ := ten_cells hS.x
        go_simp
        (try go_ints)
        first
         | ((with_reducible refine (HCP.out _).mono ?_); rintro e w5 ⟨rfl, rfl⟩; exact Done.same)
         | (obtain ⟨v, hr2, b, rfl, hk⟩ := hr; simp only [hr2, Option.getD_some]; go_simp; exact Done.same)
         | exact Done.same
      )
   show ∀ w', _ -> _
   intro w9 hw9
   simp [Act.put]
   case hS => exact HX3.out
   clear HX3 HCP
   intro v1 hv1 v2 hv2
   obtain ⟨gb1, rfl, -⟩ := hv1
   obtain ⟨gb, rfl, hgb⟩ := hv2
   have HI0 : Hid (OdI w w.heap.size (some ⟨ba, oa, none⟩) l i gb na nb (.int .i64 0) w9) := ⟨0, T, Nat.zero_le _, rfl, (fun j hj => by rw [List.take_zero]; exact HT.out j hj), hw9.s, hgb⟩
   rw [<- HN.out] at HPL HAB
   clear hw9 hgb HT
   go_wp2
   go_loopw [28] (OdI w w.heap.size (some ⟨ba, oa, none⟩) l i gb na nb) (fun x _ => np - (intOf x).toNat)
   case atStart => exact HI0.out
   case round =>
    obtain ⟨k, U, hk, rfl, hU, hs, hgb⟩ := hrel
    have HU := Lib.hid hU
    have HSU := Lib.hid hs
    have HGB := Lib.hid hgb
    rw [HPL.out] at hk
    clear hU hs hgb HI0
    by_cases hkl : k < np
    ·have hklz : (k : Int) < (np : Int) := by omega
     have hkP : k < (prtN (atN l i)).length := by rw [HPL.out]; exact hkl
     have hc : wr.cell? ⟨gb, k, none⟩ = some (.int .i64 (((prtN (atN l i)).getD k 0 : Nat) : Int)) := by rw [HGB.out.cell]; exact HAB.out k hkP
     have hpm : (prtN (atN l i)).getD k 0 ∈ prtN (atN l i) := by rw [List.getD_eq_getElem?_getD, List.getElem?_eq_getElem hkP]; exact List.getElem_mem _
     have hpi := (HPC.out _ hpm).1
     have HTS : Hid ((prtN (atN l i)).take (k + 1) = (prtN (atN l i)).take k ++ [(prtN (atN l i)).getD k 0]) := take_snoc hkP
     have hnot : U.getD ((prtN (atN l i)).getD k 0) false = false := by
      cases hb : U.getD ((prtN (atN l i)).getD k 0) false with
      | false => rfl
      | true =>
       exfalso
       rcases HU.out _ hb with ⟨q, hq, h1⟩ | h1
       ·exact prt_once HF.out hlt hq h1 hpm
       ·rcases (show k = 0 \/ k = 1 by omega) with e | e
        ·rw [e] at h1; simp at h1
        ·rw [e] at h1
         have h2 := prt_two HF.out hlt (by rw [HPL.out]; omega)
         have h3 : (prtN (atN l i)).take 1 = [(prtN (atN l i)).getD 0 0] := by
          have := take_snoc (d := 0) (show 0 < (prtN (atN l i)).length by rw [HPL.out]; omega)
          simpa using this
         rw [h3, List.mem_singleton] at h1
         exact h2 h1.symm
     generalize (prtN (atN l i)).getD k 0 = p at *
     have hU2 := HSU.out.tk.cell p
     rw [boC_at (by rw [HSU.out.len]; omega), hnot] at hU2
     have hUf := HSU.out.tk.frozen p
     have hplz : (p : Int) < (l.length : Int) := by omega
     have hp0 : decide ((p : Int) < 0) = false := decide_eq_false (by omega)
     have hp0n : ¬ (p : Int) < 0 := by omega
     have hpz : ¬ (p : Int) >= (i : Int) := by omega
     have HS5 : Hid (OdS w w.heap.size (some ⟨ba, oa, none⟩) l (U.set p true) (wr.setCell ⟨w.heap.size, p, none⟩ (.bool true))) := by
      have hb := HSU.out.tk.setCell p (.bool true)
      have hB : Below w.heap.size wr (wr.setCell ⟨w.heap.size, p, none⟩ (.bool true)) := (Below.refl _ _).setCell (p := ⟨w.heap.size, p, none⟩) (Nat.le_refl _) _
      refine ⟨HSU.out.bel.trans hB, HSU.out.low, by rw [<- boC_set]; exact hb, hr0.out.later (HSU.out.bel.trans hB), by rw [List.length_set]; exact HSU.out.len⟩
     have HG5 : Hid (Blk (wr.setCell ⟨w.heap.size, p, none⟩ (.bool true)) gb #[.int .i64 na, .int .i64 nb] 3) := HGB.out.setCell_ne (a := ⟨w.heap.size, p, none⟩) (fun e => (ne_of_typed HGB.out HSU.out.tk (by decide)) e.symm) _
     have HT5 : Hid (OdT l i ((prtN (atN l i)).take (k + 1)) (U.set p true)) := fun j hj => by
      by_cases e : j = p
      ·right; rw [HTS.out, e]; simp
      ·rw [List.getD_eq_getElem?_getD, List.getElem?_set_ne (fun h => e h.symm), <- List.getD_eq_getElem?_getD] at hj
       rcases HU.out j hj with h | h
       ·exact .inl h
       ·right; rw [HTS.out]; exact List.mem_append_left _ h
     clear hnot HU HSU HGB HTS hpm hkP
     go_wp2
     go_roundw
     case rel => exact ⟨k + 1, _, by rw [HPL.out]; omega, by go_num, HT5.out, HS5.out, HG5.out⟩
     case measure => simp [intOf]; omega
    ·obtain rfl : k = np := by omega
     have hlast : ¬ ((k : Nat) : Int) < (k : Int) := by omega
     have HT6 : Hid (OdT l (i + 1) [] U) := fun j hj => by
      left
      rcases HU.out j hj with ⟨q, hq, h⟩ | h
      ·exact ⟨q, by omega, h⟩
      ·exact ⟨i, by omega, List.mem_of_mem_take h⟩
     go_wp2
     go_roundw
     case rel => exact ⟨i + 1, U, by omega, by go_num, HT6.out, HSU.out⟩
     case measure => simp [intOf]; omega
  ·obtain rfl : i = l.length := by omega
   have hlast : ¬ ((l.length : Nat) : Int) < (l.length : Int) := by omega
   go_wp2
   go_ret
   exact ⟨rfl, HS.out.bel⟩
def EndP (m : Nat) (l : List Nd) (V : Wd) (w0 : World) (L : List (Nat × Nat)) (e : Ending) (w : World) : Prop :=
 ∃ v, e = .returned v /\ IsR w v L /\ Rk m l V w0.heap.size [] w0 w /\ ∀ X, (∀ g, X g -> g < w0.heap.size) -> KeptX w0 m l V X -> Out v X
structure Rdr (rb : Nat) (A : Option Addr) (l : List Nd) (c : Nat) (u : Value) (W V : Wd) (m : Nat) (w : World) : Prop where
 rd : Rdb rb A l c u W m w
 kept : KeptX w m l V (fun _ => False)
theorem Rdr.rk {rb : Nat} {A : Option Addr} {l : List Nd} {c : Nat} {u : Value} {W V : Wd} {m : Nat} {w w' : World} (h : Rdr rb A l c u W V m w) (k : Rk m l V w.heap.size [] w w') : Rdr rb A l c u W V m w' :=
 ⟨h.rd.kc (k.kc ⟨_, h.kept⟩), (k.map _ (fun g hg => hg.elim) h.kept).less fun g hg => .inl hg⟩
theorem Rdr.later {rb : Nat} {A : Option Addr} {l : List Nd} {c : Nat} {u : Value} {W V : Wd} {m : Nat} {w w' : World} (h : Rdr rb A l c u W V m w) (hb : Below w.heap.size w w') : Rdr rb A l c u W V m w' := h.rk (.of_below hb)
theorem Rdr.at_ {rb : Nat} {A : Option Addr} {l : List Nd} {c : Nat} {u : Value} {W V : Wd} {m B : Nat} {O : List Nat} {w w' : World} (h : Rdr rb A l c u W V m w) (hB : w.heap.size <= B) (k : Rk m l V B O w w') : Rdr rb A l c u W V m w' := by
 have hk : Rk m l V w.heap.size [] w w' := ⟨k.os, k.tape, k.output, k.size, fun b hb hm => k.block b (by omega) hm, (fun g hg => by cases hg), fun X hX hK => (k.map X (fun g hg => Nat.lt_of_lt_of_le (hX g hg) hB) hK).less fun g hg => (by rcases hg with h | h; exact .inl h; cases h), k.nc⟩
 exact h.rk hk
def EndsC (A : Option Addr) (l : List Nd) (c m : Nat) (V : Wd) (i : Nat) : Prop := ∀ (rb : Nat) (u : Value) (W : Wd) (a : Nat) (w : World), Rdr rb A l c u W V m w -> W <+: V -> a <= W.length ->
 Calls Try.prog 45 #[.pointer (some ⟨rb, 0, none⟩), .int .i64 (i : Int), .int .i64 (a : Int)] w (EndP m l V w (plF (W.length + 1) (rowV l i W a)))
def AllC (A : Option Addr) (l : List Nd) (c m : Nat) (V : Wd) (i : Nat) : Prop := ∀ (rb : Nat) (u : Value) (W : Wd) (F : Nat -> Nat) (vl : Value) (w : World), Rdr rb A l c u W V m w -> W <+: V -> (∀ b, F b <= 2) -> IsR w vl (plF (W.length + 1) F) ->
 Calls Try.prog 57 #[.pointer (some ⟨rb, 0, none⟩), .int .i64 (i : Int), vl] w (EndP m l V w (plF (W.length + 1) (thV l i W F)))
def ReadC (A : Option Addr) (l : List Nd) (c m : Nat) (V : Wd) (i : Nat) : Prop := ∀ (rb : Nat) (u : Value) (W : Wd) (F : Nat -> Nat) (vl : Value) (w : World), Rdr rb A l c u W V m w -> W <+: V -> (∀ b, F b <= 2) -> IsR w vl (plF (W.length + 1) F) ->
 Calls Try.prog 59 #[.pointer (some ⟨rb, 0, none⟩), .int .i64 (i : Int), vl] w (EndP m l V w (plF (W.length + 1) (thV l i W F)))
def KidP (m : Nat) (l : List Nd) (V : Wd) (B tb first : Nat) (S : List UInt8) (w0 : World) (e : Ending) (w : World) : Prop := ∃ v, e = .returned (.tuple #[]) /\ TyS B tb first v S w /\ Rk m l V B [] w0 w
def KdL (m : Nat) (l : List Nd) (V : Wd) (B tb first : Nat) (S : List UInt8) (q x bf : Nat) (Al : Option Addr) (L : List (Nat × Nat)) (w0 : World) (i : Value) (w : World) : Prop :=
 ∃ (k : Nat) (v : Value), k <= L.length /\ i = .int .i64 (k : Int) /\ TyS B tb first v (tyAll first S (kdL q x (L.take k))) w /\ Rk m l V B [] w0 w /\ RcRow w Al L /\ Blk w bf #[.int .i64 (q : Int), .int .i64 (x : Int)] 92 /\ B <= w.heap.size
theorem kd_reach {first q x n k : Nat} {S : List UInt8} {L : List (Nat × Nat)} (hq : first <= q) (hS : first + S.length <= n \/ S = []) (hL : ∀ p ∈ L, p.1 < n) : (tyAll first S (kdL q x (L.take k))).length <= n := by
 have hp : ∀ p ∈ kdL q x (L.take k), first <= p.1 /\ p.1 < n := fun p hp => by
  obtain ⟨h1, y, h3⟩ := kdL_mem hp
  have := hL (p.1, y) (List.mem_of_mem_take h3)
  exact ⟨by omega, this⟩
 rcases hS with hS | hS
 ·have := tyAll_reach hS hp; omega
 ·subst hS
  cases hk : kdL q x (L.take k) with
  | nil => exact Nat.zero_le _
  | cons r R =>
   have h1 := hp r (by rw [hk]; simp)
   rw [hk] at hp
   have := tyAll_reach (first := first) (n := n) (S := []) (by simp; omega) hp
   omega
theorem ckid_any {A : Option Addr} {l : List Nd} {c m : Nat} {V : Wd} {i : Nat} (hE : EndsC A l c m V i) (rb : Nat) (u : Value) (W : Wd) (B tb first : Nat) (v : Value) (S : List UInt8) (q x : Nat) (w : World)
 (hr : Rdr rb A l c u W V m w) (hW : W <+: V) (hn : V.length <= 900) (hT : TyS B tb first v S w) (hB : B <= w.heap.size) (hfq : first <= q) (hq : q <= W.length) (hx1 : 1 <= x) (hx : x <= 2) (hS : first + S.length <= W.length + 1 \/ S = []) :
 Calls Try.prog 76 #[.pointer (some ⟨rb, 0, none⟩), .pointer (some ⟨tb, 0, none⟩), .int .i64 (i : Int), .agg #[.int .i64 (q : Int), .int .i64 (x : Int)]] w (KidP m l V B tb first (tyAll first S (kdL q x (plF (W.length + 1) (rowV l i W q)))) w) := by
 have hWn : W.length <= 900 := by obtain ⟨t, rfl⟩ := hW; simp at hn; omega
 have hb1 := (Below.refl w.heap.size w).alloc (Nat.le_refl _) (.cells #[.int .i64 (q : Int), .int .i64 (x : Int)] 92)
 have HR1 := Lib.hid (hr.later hb1)
 have HT1 := Lib.hid (hT.later hb1)
 have HK1 : Hid (Rk m l V B [] w (w.alloc (.cells #[.int .i64 (q : Int), .int .i64 (x : Int)] 92))) := (Rk.refl w B).later hB hb1
 have HX1 := Lib.hid (Blk.new w #[.int .i64 (q : Int), .int .i64 (x : Int)] 92)
 have HB1 := Lib.hid hb1.size
 have HC := Lib.hid (hE rb u W q (w.alloc (.cells #[.int .i64 (q : Int), .int .i64 (x : Int)] 92)) HR1.out hW hq)
 clear hr hT hb1 hE hW hn
 obtain ⟨L, hL⟩ : ∃ L, plF (W.length + 1) (rowV l i W q) = L := ⟨_, rfl⟩
 rw [hL] at HC ⊢
 have HLP : Hid (∀ k, k < L.length -> (L.getD k (0, 0)).1 < W.length + 1 /\ (L.getD k (0, 0)).2 <= 2) := fun k hk => by
  have hm : L.getD k (0, 0) ∈ L := by rw [List.getD_eq_getElem?_getD, List.getElem?_eq_getElem hk]; exact List.getElem_mem _
  rw [<- hL] at hm ⊢
  have := mem_plF.1 hm
  exact ⟨this.1, by rw [<- this.2.1]; exact rowV_le⟩
 have HRE : Hid (∀ k, (tyAll first S (kdL q x (L.take k))).length <= W.length + 1) := fun k => kd_reach hfq hS (fun p hp => by rw [<- hL] at hp; exact (mem_plF.1 hp).1)
 have hLn : L.length <= W.length + 1 := by rw [<- hL]; exact plF_length
 clear hL hS
 go_enter Try.func76, Try.ntmps76
 go_upto_region 1 with (fail)
 generalize w.alloc (.cells #[.int .i64 (q : Int), .int .i64 (x : Int)] 92) = w1 at *
 have e0 := HX1.out.cell 0
 simp at e0
 go_wp2_with fail
 refine HC.out.mono ?_; rintro e w2 ⟨vl, rfl, hi, hk, -⟩
 have hkc := hk.kc ⟨_, HR1.out.kept⟩
 obtain ⟨Al, cl, rfl, hlc, hrow⟩ := hi
 have HS0 : Hid (KdL m l V B tb first S q x w.heap.size Al L w (.int .i64 0) w2) := ⟨0, v, Nat.zero_le _, rfl, HT1.out.kc hkc, HK1.out.call (Nat.le_trans hB HB1.out) hk, hrow, hkc.block _ HX1.out.lt _ _ HX1.out, Nat.le_trans hB (Nat.le_trans HB1.out hk.size)⟩
 clear hk hkc hrow HR1 HT1 HK1 HX1 HB1 HC e0
 go_wp2
 go_loopw [16] (KdL m l V B tb first S q x w.heap.size Al L w) (fun i _ => L.length - (intOf i).toNat)
 case atStart => exact HS0.out
 case round =>
  obtain ⟨k, v2, hk, rfl, hty, hrk, hrow, hx2, hb2⟩ := hrel
  have HTY := Lib.hid hty
  have HRK := Lib.hid hrk
  have HRO := Lib.hid hrow
  have HX2 := Lib.hid hx2
  have HB2 := Lib.hid hb2
  clear hty hrk hrow hx2 hb2 HS0
  by_cases hlt : k < L.length
  ·have hltz : (k : Int) < (L.length : Int) := by omega
   obtain ⟨b, off, hA, hblt, hc⟩ := HRO.out.two (fun e => by rw [e] at hlt; exact absurd hlt (Nat.not_lt_zero _))
   obtain ⟨c0, c1⟩ := hc k hlt
   have HPK := Lib.hid (HLP.out k hlt)
   have HN : Hid (kdL q x (L.take (k + 1)) = kdL q x (L.take k) ++ if q < (L.getD k (0, 0)).1 then [((L.getD k (0, 0)).1, x * (L.getD k (0, 0)).2)] else []) := by
    unfold Hid; rw [take_snoc (d := (0, 0)) hlt, kdL_snoc]
   generalize (L.getD k (0, 0)).1 = p at *
   generalize (L.getD k (0, 0)).2 = y at *
   clear hc
   subst hA
   have hb3 := (Below.refl wr.heap.size wr).alloc (Nat.le_refl _) (.cells #[.int .i64 (p : Int), .int .i64 (y : Int)] 92)
   have HTY3 := Lib.hid (HTY.out.later hb3)
   have HRK3 := Lib.hid (HRK.out.later HB2.out hb3)
   have HRO3 := Lib.hid (HRO.out.later hb3)
   have HX3 := Lib.hid (HX2.out.later hb3)
   have HP3 := Lib.hid (Blk.new wr #[.int .i64 (p : Int), .int .i64 (y : Int)] 92)
   have HB3 : Hid (B <= (wr.alloc (.cells #[.int .i64 (p : Int), .int .i64 (y : Int)] 92)).heap.size) := Nat.le_trans HB2.out hb3.size
   clear hb3 HTY HRK HRO HX2
   go_upto_region 4 with (fail)
   clear c0 c1
   generalize wr.alloc (.cells #[.int .i64 (p : Int), .int .i64 (y : Int)] 92) = w3 at *
   generalize wr.heap.size = bx at *
   have e0 := HP3.out.cell 0
   have e1 := HP3.out.cell 1
   have f0 := HX3.out.cell 0
   have f1 := HX3.out.cell 1
   simp at e0 e1 f0 f1
   by_cases hqp : q < p
   ·have hqz : (p : Int) > (q : Int) := by omega
    rw [if_pos hqp] at HN
    have hxy : x * y <= 2 * 2 := Nat.mul_le_mul hx HPK.out.2
    obtain ⟨xy, hxye⟩ : ∃ xy, x * y = xy := ⟨_, rfl⟩
    have hxyz : (x : Int) * (y : Int) = (xy : Int) := by rw [<- hxye]; exact (Int.natCast_mul x y).symm
    rw [hxye] at HN hxy
    have HN2 : Hid (tyAll first S (kdL q x (L.take (k + 1))) = if xy = 0 then tyAll first S (kdL q x (L.take k)) else tyAdd first (tyAll first S (kdL q x (L.take k))) p xy) := by unfold Hid; rw [HN.out, tyAll_snoc]
    have HCA := Lib.hid (cadd_any B tb first p xy (tyAll first S (kdL q x (L.take k))) v2 w3 HTY3.out HB3.out (by omega) (by have := HPK.out.1; omega) (by omega) (by omega) (by have := HRE.out k; omega))
    clear hxye HP3 hqp HN
    go_wp2_with fail
    refine HCA.out.mono ?_; rintro e w4 ⟨v4, rfl, hty, hkt⟩
    have HTY4 : Hid (TyS B tb first v4 (tyAll first S (kdL q x (L.take (k + 1)))) w4) := by unfold Hid; rw [HN2.out]; exact hty
    have HRK4 := Lib.hid (HRK3.out.kt hkt)
    have HRO4 := Lib.hid (HRO3.out.kt hkt)
    have HX4 := Lib.hid (hkt.typ _ _ _ (by decide) (by decide) HX3.out)
    have HB4 : Hid (B <= w4.heap.size) := Nat.le_trans HB3.out hkt.bel.size
    clear hty hkt HCA e0 e1 f0 f1 HRK3 HTY3 HRO3 HX3 HB3
    go_wp2
    go_roundw
    case rel => exact ⟨k + 1, v4, by omega, by go_num, HTY4.out, HRK4.out, HRO4.out, HX4.out, HB4.out⟩
    case measure => simp [intOf]; omega
   ·have hqz : ¬ (p : Int) > (q : Int) := by omega
    rw [if_neg hqp, List.append_nil] at HN
    clear hqp HP3
    go_wp2
    go_roundw
    case rel => exact ⟨k + 1, v2, by omega, by go_num, by rw [HN.out]; exact HTY3.out, HRK3.out, HRO3.out, HX3.out, HB3.out⟩
    case measure => simp [intOf]; omega
  ·obtain rfl : k = L.length := by omega
   have hlast : ¬ ((L.length : Nat) : Int) < (L.length : Int) := by omega
   have HPF : Hid (KidP m l V B tb first (tyAll first S (kdL q x L)) w (.returned (.tuple #[])) wr) := ⟨v2, rfl, by have := HTY.out; rwa [List.take_length] at this, HRK.out⟩
   clear HTY HRK HRO HX2
   go_wp2
   go_end0
   exact HPF.out
end Go.Proofs.Ytpbbokdmoaadfaa
