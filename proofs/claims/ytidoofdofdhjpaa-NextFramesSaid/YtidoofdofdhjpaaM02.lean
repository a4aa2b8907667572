/- The contracts of package class (and of math/bits as it uses it): each call answers the set that the document names, and nothing that was there turns. -/
import Derived.Test.YtidoofdofdhjpaaM01
import Derived.Test.YtidoofdofdhjpaaProg
import Derived.WalkKit
import Derived.ProofKit
import Derived.Outline
import Derived.Handy
import Derived.BigRegion
import Derived.Lib.Hide
import Derived.ChangeKeysEq
namespace Go.Proofs.Ytidoofdofdhjpaa
open Go Go.RowKit
set_option linter.unusedVariables false
def Ans (w : World) (v : Value) (e : Ending) (w' : World) : Prop := e = .returned v /\ Below w.heap.size w w'
def Pure (w : World) (v : Value) (e : Ending) (w' : World) : Prop := e = .returned v /\ w = w'
set_option maxHeartbeats 800000 in
theorem has_walk (a0 a1 a2 a3 c : Int) (x : Bool) (w : World) (h0 : 0 <= c) (h1 : c <= 255)
 (h : (c / 64 = 0 /\ (bits .and .u64 (a0 / 2 ^ (c % 64).toNat) 1 == 1) = x) \/ (c / 64 = 1 /\ (bits .and .u64 (a1 / 2 ^ (c % 64).toNat) 1 == 1) = x) \/ (c / 64 = 2 /\ (bits .and .u64 (a2 / 2 ^ (c % 64).toNat) 1 == 1) = x) \/ (c / 64 = 3 /\ (bits .and .u64 (a3 / 2 ^ (c % 64).toNat) 1 == 1) = x)) :
 Calls Try.prog 73 #[.agg #[.int .u64 a0, .int .u64 a1, .int .u64 a2, .int .u64 a3], .int .u8 c] w (Ans w (.bool x)) := by
 rcases h with ⟨hq, hx⟩ | ⟨hq, hx⟩ | ⟨hq, hx⟩ | ⟨hq, hx⟩
 all_goals
  go_enter Try.func73, Try.ntmps73
  go_wp2
  go_ret
  exact ⟨rfl, by go_grown⟩
theorem has_any (s : BitVec 256) (c : Nat) (hc : c < 256) (w : World) :
 Calls Try.prog 73 #[cls s, .int .u8 (c : Int)] w (Ans w (.bool (s.getLsbD c))) := by
 have hr : ((c : Int) % 64).toNat = c % 64 := by omega
 have key : ∀ i, c / 64 = i -> (bits .and .u64 ((wd s i : Int) / 2 ^ ((c : Int) % 64).toNat) 1 == 1) = s.getLsbD c := by
  intro i hi
  rw [has_bit s i (c % 64) (by omega) _ (by rw [hr])]
  congr 1; omega
 refine has_walk _ _ _ _ _ _ w (by omega) (by omega) ?_
 ·rcases (by omega : c / 64 = 0 \/ c / 64 = 1 \/ c / 64 = 2 \/ c / 64 = 3) with h | h | h | h
  ·exact .inl ⟨by omega, key 0 h⟩
  ·exact .inr (.inl ⟨by omega, key 1 h⟩)
  ·exact .inr (.inr (.inl ⟨by omega, key 2 h⟩))
  ·exact .inr (.inr (.inr ⟨by omega, key 3 h⟩))
def Row8 (w : World) (a : Option Addr) (l : List Nat) : Prop :=
 (∀ c ∈ l, c < 256) /\ l.length <= 9223372036854775807 /\ ∀ i, i < l.length -> ∃ b off, a = some ⟨b, off, none⟩ /\ b < w.heap.size /\ w.cell? ⟨b, off + i, none⟩ = some (.int .u8 ((l.getD i 0 : Nat) : Int))
theorem add_word (s : BitVec 256) (c : Nat) (hc : c < 256) (i : Nat) (hi : i < 4) (h : c / 64 = i) :
 bits .or .u64 (wd s i) (IntKind.u64.wrap (2 ^ (c % 64))) = (wd (s ||| one c) i : Int) := by
 have e : IntKind.u64.wrap (2 ^ (c % 64)) = (wd (one c) i : Int) := by
  have hl := wd_lt (one c) i
  rw [wd_one _ _ hi, if_pos h] at hl ⊢
  have := wrap_nat hl
  simpa using this
 rw [e, bits_or_nat (wd_lt _ _) (wd_lt _ _), <- wd_or]
theorem add_other (s : BitVec 256) (c : Nat) (i : Nat) (hi : i < 4) (h : c / 64 ≠ i) : wd s i = wd (s ||| one c) i := by
 rw [wd_or, wd_one _ _ hi, if_neg h]; simp
def add_cells (S : BitVec 256) (c : Nat) : Array Value := #[.int .u64 (wd (S ||| one c) 0), .int .u64 (wd (S ||| one c) 1), .int .u64 (wd (S ||| one c) 2), .int .u64 (wd (S ||| one c) 3)]
theorem add_cells0 (S : BitVec 256) (c : Nat) (hc : c < 256) (h : (c : Int) / 64 = 0) : #[.int .u64 (bits .or .u64 (wd S 0) (IntKind.u64.wrap (2 ^ (c % 64)))), .int .u64 (wd S 1), .int .u64 (wd S 2), .int .u64 (wd S 3)] = add_cells S c := by
 rw [add_word S c hc 0 (by omega) (by omega), add_other S c 1 (by omega) (by omega), add_other S c 2 (by omega) (by omega), add_other S c 3 (by omega) (by omega)]; rfl
theorem add_cells1 (S : BitVec 256) (c : Nat) (hc : c < 256) (h : (c : Int) / 64 = 1) : #[.int .u64 (wd S 0), .int .u64 (bits .or .u64 (wd S 1) (IntKind.u64.wrap (2 ^ (c % 64)))), .int .u64 (wd S 2), .int .u64 (wd S 3)] = add_cells S c := by
 rw [add_word S c hc 1 (by omega) (by omega), add_other S c 0 (by omega) (by omega), add_other S c 2 (by omega) (by omega), add_other S c 3 (by omega) (by omega)]; rfl
theorem add_cells2 (S : BitVec 256) (c : Nat) (hc : c < 256) (h : (c : Int) / 64 = 2) : #[.int .u64 (wd S 0), .int .u64 (wd S 1), .int .u64 (bits .or .u64 (wd S 2) (IntKind.u64.wrap (2 ^ (c % 64)))), .int .u64 (wd S 3)] = add_cells S c := by
 rw [add_word S c hc 2 (by omega) (by omega), add_other S c 0 (by omega) (by omega), add_other S c 1 (by omega) (by omega), add_other S c 3 (by omega) (by omega)]; rfl
theorem add_cells3 (S : BitVec 256) (c : Nat) (hc : c < 256) (h : (c : Int) / 64 = 3) : #[.int .u64 (wd S 0), .int .u64 (wd S 1), .int .u64 (wd S 2), .int .u64 (bits .or .u64 (wd S 3) (IntKind.u64.wrap (2 ^ (c % 64))))] = add_cells S c := by
 rw [add_word S c hc 3 (by omega) (by omega), add_other S c 0 (by omega) (by omega), add_other S c 1 (by omega) (by omega), add_other S c 2 (by omega) (by omega)]; rfl
set_option maxHeartbeats 2000000 in
theorem add_any (s : BitVec 256) (l : List Nat) (a : Option Addr) (cap : Nat) (w : World) (h : Row8 w a l) :
 Calls Try.prog 72 #[cls s, .slice a l.length cap] w (Ans w (cls (addL s l))) := by
 obtain ⟨hl, hm, hc⟩ := h
 have HL := Lib.hid hl; clear hl
 have HC := Lib.hid hc; clear hc
 unfold cls
 go_enter Try.func72, Try.ntmps72
 go_wp2
 go_loopw [9] (fun i wr => ∃ k : Nat, k <= l.length /\ i = .int .i64 k /\ wr = (w.alloc (.cells #[.int .u64 (wd (addL s (l.take k)) 0), .int .u64 (wd (addL s (l.take k)) 1), .int .u64 (wd (addL s (l.take k)) 2), .int .u64 (wd (addL s (l.take k)) 3)] 35)).alloc (.cells #[.int .u64 0, .int .u64 0, .int .u64 0, .int .u64 0] 35)) (fun i _ => l.length - (intOf i).toNat)
 case atStart => exact ⟨0, Nat.zero_le _, rfl, rfl⟩
 case round =>
  obtain ⟨k, hk, rfl, rfl⟩ := hrel
  by_cases hlt : k < l.length
  ·obtain ⟨b, off, rfl, hb, hcell⟩ := HC.out k hlt
   have hg : l.getD k 0 = l[k] := by simp [hlt]
   have hc256 : l.getD k 0 < 256 := HL.out _ (by rw [hg]; exact List.getElem_mem hlt)
   have ht : l.take (k + 1) = l.take k ++ [l.getD k 0] := by rw [List.take_succ_eq_append_getElem hlt, hg]
   have HT : Hid (addL s (l.take (k + 1)) = addL s (l.take k) ||| one (l.getD k 0)) := by rw [ht, addL_append]; rfl
   clear ht hg HC
   generalize addL s (l.take k) = S at *
   generalize l.getD k 0 = c at *
   have hc0 : (0 : Int) <= c := by omega
   have hc1 : (c : Int) <= 255 := by omega
   have hpart : (c : Int) / 64 = 0 \/ (c : Int) / 64 = 1 \/ (c : Int) / 64 = 2 \/ (c : Int) / 64 = 3 := by omega
   rcases hpart with hq | hq | hq | hq
   all_goals
    go_wp2
    go_roundw
    case rel =>
     refine ⟨k + 1, by omega, by go_num, ?_⟩
     rw [HT.out]
     refine congrArg (fun x => (w.alloc (.cells x 35)).alloc (.cells #[.int .u64 0, .int .u64 0, .int .u64 0, .int .u64 0] 35)) ?_
     first | exact add_cells0 S c hc256 hq | exact add_cells1 S c hc256 hq | exact add_cells2 S c hc256 hq | exact add_cells3 S c hc256 hq
    case measure => simp [intOf]; omega
  ·have he : k = l.length := by omega
   subst he
   clear HC
   go_wp2
   go_returns
   exact ⟨rfl, by go_grown⟩
def Blk (w : World) (b : Nat) (vs : Array Value) (t : TypeId) : Prop := w.heap[b]? = some (.cells vs t)
section
variable {w w' : World} {b : Nat} {vs : Array Value} {t : TypeId}
theorem Blk.lt (h : Blk w b vs t) : b < w.heap.size := by
 unfold Blk at h
 rcases Nat.lt_or_ge b w.heap.size with l | l
 ·exact l
 ·rw [Array.getElem?_eq_none l] at h; cases h
theorem Blk.cell (h : Blk w b vs t) (o : Nat) : w.cell? ⟨b, o, none⟩ = vs[o]? := by unfold Blk at h; simp [World.cell?, h]
theorem Blk.frozen (h : Blk w b vs t) (o : Nat) : w.frozen? ⟨b, o, none⟩ = false := by unfold Blk at h; simp [World.frozen?, h]
theorem Blk.below (h : Blk w b vs t) {B : Nat} (hb : Below B w w') (l : b < B) : Blk w' b vs t := (hb.block b l).trans h
theorem Blk.later (h : Blk w b vs t) (hb : Below w.heap.size w w') : Blk w' b vs t := h.below hb h.lt
theorem Blk.setCell (h : Blk w b vs t) (o : Nat) (v : Value) : Blk (w.setCell ⟨b, o, none⟩ v) b (vs.setIfInBounds o v) t := by
 unfold Blk at *
 simp [World.setCell, Array.getElem?_modify, h]
theorem Blk.setCell_ne (h : Blk w b vs t) {a : Addr} (hne : a.block ≠ b) (v : Value) : Blk (w.setCell a v) b vs t := by
 unfold Blk at *
 simp only [World.setCell, Array.getElem?_modify]
 rw [if_neg hne, h]
theorem Blk.alloc (h : Blk w b vs t) (o : Obj) : Blk (w.alloc o) b vs t := by
 have := h.lt
 unfold Blk at *
 rw [<- h]; exact Below.heap_alloc w o b this
theorem Blk.new (w : World) (vs : Array Value) (t : TypeId) : Blk (w.alloc (.cells vs t)) w.heap.size vs t := by
 unfold Blk
 show (w.heap.push _)[w.heap.size]? = _
 simp
theorem Blk.new' {w : World} {b : Nat} (h : b = w.heap.size) (vs : Array Value) (t : TypeId) : Blk (w.alloc (.cells vs t)) b vs t := h ▸ Blk.new w vs t
end
def cells4 (S : BitVec 256) : Array Value := #[.int .u64 (wd S 0), .int .u64 (wd S 1), .int .u64 (wd S 2), .int .u64 (wd S 3)]
theorem Blk.set4 {w : World} {b : Nat} {S : BitVec 256} {t : TypeId} (h : Blk w b (cells4 S) t) (S' : BitVec 256) :
 Blk ((((w.setCell ⟨b, 0, none⟩ (.int .u64 (wd S' 0))).setCell ⟨b, 1, none⟩ (.int .u64 (wd S' 1))).setCell ⟨b, 2, none⟩ (.int .u64 (wd S' 2))).setCell ⟨b, 3, none⟩ (.int .u64 (wd S' 3))) b (cells4 S') t :=
 (((h.setCell 0 _).setCell 1 _).setCell 2 _).setCell 3 _
theorem Blk.cells {w : World} {b : Nat} {S : BitVec 256} {t : TypeId} (h : Blk w b (cells4 S) t) :
 w.cell? ⟨b, 0, none⟩ = some (.int .u64 (wd S 0)) /\ w.cell? ⟨b, 1, none⟩ = some (.int .u64 (wd S 1)) /\ w.cell? ⟨b, 2, none⟩ = some (.int .u64 (wd S 2)) /\ w.cell? ⟨b, 3, none⟩ = some (.int .u64 (wd S 3)) :=
 ⟨h.cell 0, h.cell 1, h.cell 2, h.cell 3⟩
theorem row_one (w : World) (c : Nat) (hc : c < 256) (a : Option Addr) (b : Nat) (ha : a = some ⟨b, 0, none⟩) (h : Blk w b #[.int .u8 (c : Int)] 5) : Row8 w a [c] := by
 refine ⟨by simpa using hc, by simp, fun i hi => ?_⟩
 have : i = 0 := by simpa using hi
 subst this
 exact ⟨b, 0, ha, h.lt, by rw [h.cell]; rfl⟩
set_option maxHeartbeats 2000000 in
theorem of_any (a b : Nat) (ha : a < 256) (hb : b < 256) (w : World) :
 Calls Try.prog 49 #[.int .u8 (a : Int), .int .u8 (b : Int)] w (Ans w (cls (rowB a b))) := by
 have Z : Hid (rowB a b = addL 0#256 ((List.range (b + 1 - a)).map (a + ·))) := rfl
 generalize rowB a b = R at *
 have z0 : wd 0#256 0 = 0 := by decide
 have z1 : wd 0#256 1 = 0 := by decide
 have z2 : wd 0#256 2 = 0 := by decide
 have z3 : wd 0#256 3 = 0 := by decide
 have Z0 : Hid (cells4 0#256 = #[.int .u64 0, .int .u64 0, .int .u64 0, .int .u64 0]) := by unfold cells4; rw [z0, z1, z2, z3]; rfl
 clear z0 z1 z2 z3
 go_enter Try.func49, Try.ntmps49
 go_wp2
 go_loopw [13] (fun i wr => ∃ k : Nat, k <= b + 1 - a /\ i = .int .i64 k /\ Below w.heap.size w wr /\ Blk wr w.heap.size (cells4 0#256) 35 /\ Blk wr (w.heap.size + 1) (cells4 (addL 0#256 ((List.range k).map (a + ·)))) 35) (fun i _ => (b + 1 - a) - (intOf i).toNat)
 case atStart =>
  refine ⟨0, Nat.zero_le _, rfl, by go_grown, ?_, ?_⟩
  ·rw [Z0.out]; exact (Blk.new _ _ _).alloc _
  ·show Blk _ _ (cells4 0#256) _
   rw [Z0.out]; exact Blk.new' (by simp) _ _
 case round =>
  obtain ⟨k, hk, rfl, hbel, hB0, hB1⟩ := hrel
  have hs1 := hB1.lt
  by_cases hlt : k < b + 1 - a
  ·have HT : Hid (addL 0#256 ((List.range (k + 1)).map (a + ·)) = addL 0#256 ((List.range k).map (a + ·)) ||| one (a + k)) := by
    rw [List.range_succ, List.map_append, addL_append]; rfl
   generalize addL 0#256 ((List.range k).map (a + ·)) = S at *
   obtain ⟨c0, c1, c2, c3⟩ := hB1.cells
   have HB0 := Lib.hid hB0
   have HB1 := Lib.hid hB1
   have HBL := Lib.hid hbel
   clear hB0 hB1 hbel
   have hak : a + k < 256 := by omega
   go_wp2_with fail
   rw [show ((a : Int) + (k : Int)) = ((a + k : Nat) : Int) from rfl]
   refine (add_any S [a + k] _ _ _ (row_one _ (a + k) hak _ _ rfl (Blk.new _ _ _))).mono ?_
   rintro e w1 ⟨rfl, hw1⟩
   have hL1 := (HB1.out.alloc (.cells #[.int .u8 ((a + k : Nat) : Int)] 5)).later hw1
   have hL0 := (HB0.out.alloc (.cells #[.int .u8 ((a + k : Nat) : Int)] 5)).later hw1
   have hbl : Below w.heap.size w w1 := (HBL.out.alloc HBL.out.size _).trans (hw1.mono (by simp; omega))
   have HL0 := Lib.hid hL0
   have HL1 := Lib.hid hL1
   have HBL1 := Lib.hid hbl
   obtain ⟨d0, d1, d2, d3⟩ := hL1.cells
   have f := hL1.frozen
   clear hw1 c0 c1 c2 c3 hbl hL0 hL1
   rw [show cls (addL S [a + k]) = cls (S ||| one (a + k)) from rfl]
   unfold cls
   go_wp2
   go_roundw
   case rel =>
    refine ⟨k + 1, by omega, by go_num, ?_, ?_, ?_⟩
    ·exact ((((HBL1.out.setCell (by simp) _).setCell (by simp) _).setCell (by simp) _).setCell (by simp) _)
    ·exact ((((HL0.out.setCell_ne (by simp) _).setCell_ne (by simp) _).setCell_ne (by simp) _).setCell_ne (by simp) _)
    ·rw [HT.out]; exact HL1.out.set4 _
   case measure => simp [intOf]; omega
  ·have hk2 : k = b + 1 - a := by omega
   have hZ := Z.out
   rw [<- hk2] at hZ
   rw [<- hZ] at hB1
   clear hZ Z
   have HB0 := Lib.hid hB0
   have HB1 := Lib.hid hB1
   have HBL := Lib.hid hbel
   have HK := Lib.hid hk2
   obtain ⟨c0, c1, c2, c3⟩ := hB1.cells
   obtain ⟨d0, d1, d2, d3⟩ := hB0.cells
   have f := hB0.frozen
   clear hB0 hB1 hbel hk2
   go_wp2
   have hR := HB0.out.set4 R
   have hL : Below w.heap.size w _ := (((HBL.out.setCell (p := ⟨w.heap.size, 0, none⟩) (by simp) (.int .u64 (wd R 0))).setCell (p := ⟨w.heap.size, 1, none⟩) (by simp) (.int .u64 (wd R 1))).setCell (p := ⟨w.heap.size, 2, none⟩) (by simp) (.int .u64 (wd R 2))).setCell (p := ⟨w.heap.size, 3, none⟩) (by simp) (.int .u64 (wd R 3))
   generalize (((wr.setCell ⟨w.heap.size, 0, none⟩ (.int .u64 (wd R 0))).setCell ⟨w.heap.size, 1, none⟩ (.int .u64 (wd R 1))).setCell ⟨w.heap.size, 2, none⟩ (.int .u64 (wd R 2))).setCell ⟨w.heap.size, 3, none⟩ (.int .u64 (wd R 3)) = w9 at *
   obtain ⟨e0, e1, e2, e3⟩ := hR.cells
   exact bodyPost_ret (v := cls R) (by simp [results, Try.results49, go_sem, e0, e1, e2, e3, cls]) rfl ⟨rfl, hL⟩
theorem beq_words (x y : BitVec 256) : (decide (wd x 0 = wd y 0) && (decide (wd x 1 = wd y 1) && (decide (wd x 2 = wd y 2) && decide (wd x 3 = wd y 3)))) = (x == y) := by
 rw [Bool.eq_iff_iff]
 simp only [Bool.and_eq_true, decide_eq_true_eq, beq_iff_eq]
 exact ⟨fun ⟨a, b, c, d⟩ => ext_wd a b c d, fun h => by subst h; exact ⟨rfl, rfl, rfl, rfl⟩⟩
theorem equalIn_u64 (d : Nat) (x y : Int) (w : World) : (Op.equalIn (d + 1) 33 (.int .u64 x) (.int .u64 y)).run Try.prog w = .ok (x == y) w := by
 simp [Op.equalIn, go_sem]
end Go.Proofs.Ytidoofdofdhjpaa
