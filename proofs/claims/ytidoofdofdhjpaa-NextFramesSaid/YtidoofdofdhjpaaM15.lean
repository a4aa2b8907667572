/- A map whose keys are states' keys: what a look-up finds, what an entry leaves. -/
import Derived.Test.YtidoofdofdhjpaaM12
import Derived.Test.YtidoofdofdhjpaaM06
import Derived.Test.YtidoofdofdhjpaaM14
import Derived.Test.YtidoofdofdhjpaaM11
import Derived.Test.YtidoofdofdhjpaaM03
import Derived.Test.YtidoofdofdhjpaaM04
import Derived.Test.YtidoofdofdhjpaaM07
import Derived.WalkKit
import Derived.Carry
import Derived.Below
import Derived.Shelf.SlSortCmp.WholeK
namespace Go.Proofs.Ytidoofdofdhjpaa
open Go Go.RowKit
set_option linter.unusedVariables false
set_option linter.unusedSimpArgs false
set_option maxRecDepth 100000
structure HdE where
 s : List Itm
 A : Option Addr
 cap : Nat
 many : Nat
def brC (e : HdE) : Array Value := #[.slice e.A e.s.length e.cap, .int .i64 (e.many : Int)]
def mapEsH : List HdE -> Nat -> List MapEntry
 | [], _ => []
 | p :: l, i => { key := .string (bs (stK p.s)), val := .agg (brC p), born := i } :: mapEsH l (i + 1)
theorem mapEsH_length : ∀ (l : List HdE) (i : Nat), (mapEsH l i).length = l.length
 | [], _ => rfl
 | p :: l, i => by rw [mapEsH, List.length_cons, List.length_cons, mapEsH_length l (i + 1)]
theorem mapEsH_get : ∀ (l : List HdE) (i j : Nat), (mapEsH l i)[j]? = (l[j]?).map fun p => { key := .string (bs (stK p.s)), val := .agg (brC p), born := i + j }
 | [], _, _ => by simp [mapEsH]
 | p :: l, i, 0 => by simp [mapEsH]
 | p :: l, i, j + 1 => by
  rw [mapEsH, List.getElem?_cons_succ, mapEsH_get l (i + 1) j, List.getElem?_cons_succ]
  cases l[j]? <;> simp; omega
def IsMapH (w : World) (m : Nat) (L : List HdE) : Prop := w.heap[m]? = some (.map (mapEsH L 0).toArray L.length)
theorem IsMapH.lt {w : World} {m : Nat} {l : List HdE} (h : IsMapH w m l) : m < w.heap.size := (Array.getElem?_eq_some_iff.1 h).1
def putMapH (w : World) (m : Nat) (l : List HdE) : World := { w with heap := w.heap.setIfInBounds m (.map (mapEsH l 0).toArray l.length) }
theorem putMapH_is {w : World} {m : Nat} (h : m < w.heap.size) (l' : List HdE) : IsMapH (putMapH w m l') m l' := by
 unfold IsMapH putMapH; simp [h]
theorem putMapH_other {w : World} {m b : Nat} (hb : b ≠ m) (l : List HdE) : (putMapH w m l).heap[b]? = w.heap[b]? := by
 unfold putMapH; simp [Ne.symm hb]
theorem putMapH_size (w : World) (m : Nat) (l : List HdE) : (putMapH w m l).heap.size = w.heap.size := by simp [putMapH]
def mnyE : List HdE -> List Itm -> Nat
 | [], _ => 0
 | d :: L, t => if d.s = t then d.many else mnyE L t
def putE : List HdE -> HdE -> List HdE
 | [], e => [e]
 | d :: L, e => if d.s = e.s then e :: L else d :: putE L e
theorem mny_put (e : HdE) (t : List Itm) : ∀ L, mnyE (putE L e) t = if t = e.s then e.many else mnyE L t
 | [] => by
  unfold putE mnyE
  by_cases h : t = e.s
  ·rw [if_pos h, if_pos h.symm]
  ·rw [if_neg h, if_neg (fun k => h k.symm)]; rfl
 | d :: L => by
  unfold putE
  by_cases hd : d.s = e.s
  ·rw [if_pos hd]
   unfold mnyE
   by_cases h : t = e.s
   ·rw [if_pos h, if_pos h.symm]
   ·rw [if_neg h, if_neg (fun k => h k.symm), if_neg (by rw [hd]; exact fun k => h k.symm)]
  ·rw [if_neg hd]
   unfold mnyE
   rw [mny_put e t L]
   by_cases h : t = e.s
   ·rw [if_pos h, if_pos h, if_neg (by rw [h]; exact hd)]
   ·rw [if_neg h, if_neg h]
theorem put_mem {e x : HdE} : ∀ {L : List HdE}, x ∈ putE L e -> x = e \/ x ∈ L
 | [], h => by unfold putE at h; exact .inl (List.mem_singleton.1 h)
 | d :: L, h => by
  unfold putE at h
  split at h
  ·rcases List.mem_cons.1 h with h | h
   ·exact .inl h
   ·exact .inr (List.mem_cons_of_mem _ h)
  ·rcases List.mem_cons.1 h with h | h
   ·exact .inr (by rw [h]; exact List.mem_cons_self ..)
   ·rcases put_mem h with h | h
    ·exact .inl h
    ·exact .inr (List.mem_cons_of_mem _ h)
theorem put_keys {e : HdE} : ∀ {L : List HdE} {t : List Itm}, t ∈ (putE L e).map HdE.s ↔ t = e.s \/ t ∈ L.map HdE.s
 | [], t => by simp [putE]
 | d :: L, t => by
  unfold putE
  split
  ·rename_i h; simp [h]
  ·rw [List.map_cons, List.map_cons, List.mem_cons, List.mem_cons, put_keys]
   constructor
   ·rintro (h | h | h)
    ·exact .inr (.inl h)
    ·exact .inl h
    ·exact .inr (.inr h)
   ·rintro (h | h | h)
    ·exact .inr (.inl h)
    ·exact .inl h
    ·exact .inr (.inr h)
theorem put_nodup {e : HdE} : ∀ {L : List HdE}, (L.map HdE.s).Nodup -> ((putE L e).map HdE.s).Nodup
 | [], _ => by simp [putE]
 | d :: L, h => by
  rw [List.map_cons, List.nodup_cons] at h
  unfold putE
  split
  ·rename_i hd; rw [List.map_cons, List.nodup_cons, <- hd]; exact h
  ·rename_i hd
   rw [List.map_cons, List.nodup_cons, put_keys]
   exact ⟨fun k => by rcases k with k | k; exact hd k; exact h.1 k, put_nodup h.2⟩
def findEH : List HdE -> List Itm -> Nat -> Option (Nat × Value)
 | [], _, _ => none
 | p :: l, s, i => if p.s = s then some (i, .agg (brC p)) else findEH l s (i + 1)
theorem findNow_mapEsH (s : List Itm) : ∀ (l : List HdE) (i : Nat), Instr.findNow .string (.string (bs (stK s))) (mapEsH l i) i = some (findEH l s i)
 | [], i => rfl
 | p :: l, i => by
  unfold mapEsH Instr.findNow findEH
  simp only [Instr.sameNow, bs_beq]
  by_cases h : p.s = s
  ·subst h; simp
  ·have : ¬ stK s = stK p.s := fun e => h (stK_inj.1 e).symm
   simp [this, h, findNow_mapEsH s l (i + 1)]
theorem find_val (s : List Itm) : ∀ (l : List HdE) (i : Nat), (findEH l s i = none /\ mnyE l s = 0) \/ ∃ j A c, findEH l s i = some (i + j, .agg #[.slice A s.length c, .int .i64 (mnyE l s : Int)]) /\ j < l.length
 | [], _ => .inl ⟨rfl, rfl⟩
 | p :: l, i => by
  unfold findEH mnyE
  by_cases h : p.s = s
  ·rw [if_pos h, if_pos h]
   exact .inr ⟨0, p.A, p.cap, by subst h; rfl, by simp⟩
  ·rw [if_neg h, if_neg h]
   rcases find_val s l (i + 1) with h1 | ⟨j, A, c, h1, h2⟩
   ·exact .inl h1
   ·exact .inr ⟨j + 1, A, c, by rw [h1]; congr 2; omega, by simp; omega⟩
theorem run_findKey_h (s : List Itm) (w : World) (l : List HdE) : (Instr.findKey 9 (.string (bs (stK s))) (mapEsH l 0)).run Try.prog w = .ok (findEH l s 0) w := by
 unfold Instr.findKey
 simp only [Sem.run_bind, run_underlying Try.underlying9, Result.andThen, findNow_mapEsH]
 rfl
theorem checkKey_h {e : Bool} {v : Value} (w : World) : (Instr.checkKey e 10000 9 v).run Try.prog w = .ok () w := by
 rw [show (10000 : Nat) = 9999 + 1 from rfl]
 unfold Instr.checkKey
 simp [run_underlying Try.underlying9, Result.andThen]
theorem run_lookup_h (w : World) (m : Nat) (l : List HdE) (s : List Itm) (hm : IsMapH w m l) : ∃ A n c,
 (Instr.lookup 79 (.map (some m)) (.string (bs (stK s))) false).run Try.prog w = .ok (.agg #[.slice A n c, .int .i64 (mnyE l s : Int)]) w := by
 unfold IsMapH at hm
 have hz := Try.zeroValue41
 rcases find_val s l 0 with ⟨h1, h2⟩ | ⟨j, A, c, h1, -⟩
 ·refine ⟨none, 0, 0, ?_⟩
  simp only [Instr.lookup, Sem.run_bind, run_underlying Try.underlying79, Result.andThen, getObj, Sem.run, hm, checkKey_h]
  rw [show (Sem.run Try.prog (pure (mapEsH l 0).toArray) w) = .ok (mapEsH l 0).toArray w from rfl]
  simp only [run_findKey_h, h1, h2]
  simp [Sem.run_bind, hz, Result.andThen]
 ·refine ⟨A, s.length, c, ?_⟩
  simp only [Instr.lookup, Sem.run_bind, run_underlying Try.underlying79, Result.andThen, getObj, Sem.run, hm, checkKey_h]
  rw [show (Sem.run Try.prog (pure (mapEsH l 0).toArray) w) = .ok (mapEsH l 0).toArray w from rfl]
  simp only [run_findKey_h, h1]
  rfl
theorem put_none (e : HdE) : ∀ (l : List HdE) (i : Nat), findEH l e.s i = none -> mapEsH (putE l e) i = mapEsH l i ++ [{ key := .string (bs (stK e.s)), val := .agg (brC e), born := i + l.length }] /\ (putE l e).length = l.length + 1
 | [], i, _ => ⟨rfl, rfl⟩
 | p :: l, i, h => by
  unfold findEH at h
  split at h
  ·cases h
  ·rename_i hp
   obtain ⟨h1, h2⟩ := put_none e l (i + 1) h
   unfold putE
   rw [if_neg hp, mapEsH, h1, mapEsH, List.cons_append, List.length_cons, List.length_cons, h2]
   exact ⟨by congr 4; omega, rfl⟩
theorem put_some (e : HdE) : ∀ (l : List HdE) (i j : Nat) (v : Value), findEH l e.s i = some (i + j, v) -> (mapEsH l i).modify j (fun x => { x with key := .string (bs (stK e.s)), val := .agg (brC e) }) = mapEsH (putE l e) i /\ (putE l e).length = l.length /\ ((mapEsH l i)[j]?).map (·.key) = some (.string (bs (stK e.s)))
 | [], i, j, v, h => by cases h
 | p :: l, i, j, v, h => by
  unfold findEH at h
  split at h
  ·rename_i hp
   simp only [Option.some.injEq, Prod.mk.injEq] at h
   obtain rfl : j = 0 := by omega
   unfold putE
   rw [if_pos hp]
   refine ⟨rfl, rfl, ?_⟩
   simp [mapEsH, hp]
  ·rename_i hp
   cases j with
   | zero =>
    exfalso
    rcases find_val e.s l (i + 1) with ⟨h1, -⟩ | ⟨j', A, c, h1, -⟩
    ·rw [h1] at h; cases h
    ·rw [h1] at h
     simp only [Option.some.injEq, Prod.mk.injEq] at h
     omega
   | succ j =>
    obtain ⟨h1, h2, h3⟩ := put_some e l (i + 1) j v (by rw [h]; congr 2; omega)
    unfold putE
    rw [if_neg hp]
    refine ⟨?_, by rw [List.length_cons, List.length_cons, h2], ?_⟩
    ·rw [mapEsH, mapEsH, List.modify_succ_cons, h1]
    ·rw [mapEsH, List.getElem?_cons_succ]; exact h3
theorem sameBits_str (n : Nat) (s : ByteArray) : Instr.sameBits n (.string s) (.string s) = (s == s) := by cases n <;> rfl
theorem bs_selfH (l : List UInt8) : (bs l == bs l) = true := by rw [bs_beq]; simp
theorem run_update_h (w : World) (m : Nat) (l : List HdE) (e : HdE) (hm : IsMapH w m l) :
 (Instr.mapUpdate 79 (.map (some m)) (.string (bs (stK e.s))) (.agg (brC e))).run Try.prog w = .ok () (putMapH w m (putE l e)) := by
 have hlt := hm.lt
 unfold IsMapH at hm
 rcases hf : findEH l e.s 0 with _ | ⟨j, v⟩
 ·obtain ⟨h1, h2⟩ := put_none e l 0 hf
  simp only [Instr.mapUpdate, Sem.run_bind, run_underlying Try.underlying79, Result.andThen, getObj, Sem.run, hm, checkKey_h, run_findKey_h, hf]
  simp only [setObj, Sem.run, hm]
  unfold putMapH
  rw [h1, h2]
  simp [Sem.run, hm]
 ·obtain ⟨h1, h2, h3⟩ := put_some e l 0 j v (by rw [hf]; congr 2; omega)
  simp only [Instr.mapUpdate, Sem.run_bind, run_underlying Try.underlying79, Result.andThen, getObj, Sem.run, hm, checkKey_h, run_findKey_h, hf]
  have hk : (((mapEsH l 0).toArray[j]?).map (·.key)).getD (.string (bs (stK e.s))) = .string (bs (stK e.s)) := by
   rw [List.getElem?_toArray, h3]; rfl
  rw [hk]
  have hks : (Instr.keyThatStays (.string (bs (stK e.s))) (.string (bs (stK e.s)))).run Try.prog w = .ok (.string (bs (stK e.s))) w := by
   unfold Instr.keyThatStays
   rw [sameBits_str, bs_selfH]; rfl
  rw [hks]
  simp only [setObj, Sem.run, hm]
  unfold putMapH
  rw [h2, <- h1]
  simp [Sem.run, hm]
end Go.Proofs.Ytidoofdofdhjpaa
namespace Go.Proofs.Ytidoofdofdhjpaa
open Go Go.RowKit Go.Shelf Go.Sort
set_option linter.unusedVariables false
set_option linter.unusedSimpArgs false
set_option maxRecDepth 100000
def laysSortB_ren : Go.Shelf.Ren := ⟨fun | 6 => 56 | 14 => 77 | 15 => 78 | 20 => 91 | 21 => 92 | 22 => 93 | 23 => 94 | 24 => 95 | 25 => 96 | 26 => 97 | 27 => 98 | 28 => 99 | 29 => 100 | 46 => 104 | 47 => 105 | 48 => 106 | 49 => 107 | 50 => 108 | 57 => 109 | n => n, fun | 0 => 0 | 3 => 3 | 4 => 4 | 5 => 5 | 9 => 9 | 22 => 37 | 24 => 41 | 25 => 98 | 39 => 126 | 45 => 139 | 46 => 140 | 50 => 60 | 53 => 146 | 55 => 33 | 66 => 151 | 70 => 155 | 76 => 157 | 77 => 158 | n => n, fun n => n⟩
theorem laysSortB : SlLaysF0.n6 Try.prog laysSortB_ren := {
 mixed := by kernel_rfl,
 f6 := ⟨Try.f56.name, by kernel_rfl, Try.func56.trans (congrArg some (by kernel_rfl))⟩,
 f14 := ⟨Try.f77.name, by kernel_rfl, Try.func77.trans (congrArg some (by kernel_rfl))⟩,
 f15 := Try.func78.trans (congrArg some (by kernel_rfl)),
 f20 := ⟨Try.f91.name, by kernel_rfl, Try.func91.trans (congrArg some (by kernel_rfl))⟩,
 f21 := ⟨Try.f92.name, by kernel_rfl, Try.func92.trans (congrArg some (by kernel_rfl))⟩,
 f22 := ⟨Try.f93.name, by kernel_rfl, Try.func93.trans (congrArg some (by kernel_rfl))⟩,
 f23 := ⟨Try.f94.name, by kernel_rfl, Try.func94.trans (congrArg some (by kernel_rfl))⟩,
 f24 := ⟨Try.f95.name, by kernel_rfl, Try.func95.trans (congrArg some (by kernel_rfl))⟩,
 f25 := ⟨Try.f96.name, by kernel_rfl, Try.func96.trans (congrArg some (by kernel_rfl))⟩,
 f26 := ⟨Try.f97.name, by kernel_rfl, Try.func97.trans (congrArg some (by kernel_rfl))⟩,
 f27 := ⟨Try.f98.name, by kernel_rfl, Try.func98.trans (congrArg some (by kernel_rfl))⟩,
 f28 := Try.func99.trans (congrArg some (by kernel_rfl)),
 f29 := Try.func100.trans (congrArg some (by kernel_rfl)),
 f46 := ⟨Try.f104.name, by kernel_rfl, Try.func104.trans (congrArg some (by kernel_rfl))⟩,
 f47 := Try.func105.trans (congrArg some (by kernel_rfl)),
 f48 := Try.func106.trans (congrArg some (by kernel_rfl)),
 f49 := ⟨Try.f107.name, by kernel_rfl, Try.func107.trans (congrArg some (by kernel_rfl))⟩,
 f50 := ⟨Try.f108.name, by kernel_rfl, Try.func108.trans (congrArg some (by kernel_rfl))⟩,
 f57 := ⟨Try.f109.name, by kernel_rfl, Try.func109.trans (congrArg some (by kernel_rfl))⟩,
 t0 := Try.underlying0,
 a0 := Try.isAgg0,
 z0 := Try.sizeOf0,
 v0 := Try.zeroValue0,
 t3 := Try.underlying3,
 a3 := Try.isAgg3,
 z3 := Try.sizeOf3,
 v3 := Try.zeroValue3,
 t4 := Try.underlying4,
 a4 := Try.isAgg4,
 z4 := Try.sizeOf4,
 v4 := Try.zeroValue4,
 t5 := Try.underlying5,
 a5 := Try.isAgg5,
 z5 := Try.sizeOf5,
 v5 := Try.zeroValue5,
 t9 := Try.underlying9,
 a9 := Try.isAgg9,
 z9 := Try.sizeOf9,
 v9 := Try.zeroValue9,
 t22 := Try.underlying37,
 a22 := Try.isAgg37,
 z22 := Try.sizeOf37,
 v22 := Try.zeroValue37,
 t25 := Try.underlying98,
 a25 := Try.isAgg98,
 z25 := Try.sizeOf98,
 v25 := Try.zeroValue98,
 t39 := Try.underlying126,
 a39 := Try.isAgg126,
 z39 := Try.sizeOf126,
 v39 := Try.zeroValue126,
 t45 := Try.underlying139,
 a45 := Try.isAgg139,
 z45 := Try.sizeOf139,
 v45 := Try.zeroValue139,
 t46 := Try.underlying140,
 a46 := Try.isAgg140,
 z46 := Try.sizeOf140,
 v46 := Try.zeroValue140,
 t50 := Try.underlying60,
 a50 := Try.isAgg60,
 z50 := Try.sizeOf60,
 v50 := Try.zeroValue60,
 t53 := Try.underlying146,
 a53 := Try.isAgg146,
 z53 := Try.sizeOf146,
 v53 := Try.zeroValue146,
 t55 := Try.underlying33,
 a55 := Try.isAgg33,
 z55 := Try.sizeOf33,
 v55 := Try.zeroValue33,
 t66 := Try.underlying151,
 a66 := Try.isAgg151,
 z66 := Try.sizeOf151,
 v66 := Try.zeroValue151,
 t70 := Try.underlying155,
 a70 := Try.isAgg155,
 z70 := Try.sizeOf155,
 v70 := Try.zeroValue155,
 t76 := Try.underlying157,
 a76 := Try.isAgg157,
 z76 := Try.sizeOf157,
 v76 := Try.zeroValue157,
 t77 := Try.underlying158,
 a77 := Try.isAgg158,
 z77 := Try.sizeOf158,
 v77 := Try.zeroValue158 }
end Go.Proofs.Ytidoofdofdhjpaa
namespace Go.Proofs.Ytidoofdofdhjpaa
open Go
set_option linter.unusedVariables false
set_option linter.unusedSimpArgs false
def inBy (l : List UInt8) (i a b : Nat) : Bool := match l[i]? with
 | none => false
 | some c => decide (a <= c.toNat) && decide (c.toNat <= b)
def nextU (l : List UInt8) (i : Nat) : Option Nat :=
 let c := (l.getD i 0).toNat
 if c < 128 then some 1
 else if (194 <= c /\ c <= 223) /\ inBy l (i + 1) 128 191 = true then some 2
 else if c = 224 /\ inBy l (i + 1) 160 191 = true /\ inBy l (i + 2) 128 191 = true then some 3
 else if ((225 <= c /\ c <= 236) \/ c = 238 \/ c = 239) /\ inBy l (i + 1) 128 191 = true /\ inBy l (i + 2) 128 191 = true then some 3
 else if c = 237 /\ inBy l (i + 1) 128 159 = true /\ inBy l (i + 2) 128 191 = true then some 3
 else if c = 240 /\ inBy l (i + 1) 144 191 = true /\ inBy l (i + 2) 128 191 = true /\ inBy l (i + 3) 128 191 = true then some 4
 else if (241 <= c /\ c <= 243) /\ inBy l (i + 1) 128 191 = true /\ inBy l (i + 2) 128 191 = true /\ inBy l (i + 3) 128 191 = true then some 4
 else if c = 244 /\ inBy l (i + 1) 128 143 = true /\ inBy l (i + 2) 128 191 = true /\ inBy l (i + 3) 128 191 = true then some 4
 else none
theorem inB_drop (l : List UInt8) (i k a b : Nat) : inBy l (i + k) a b = inBy (l.drop i) k a b := by unfold inBy; rw [List.getElem?_drop]
theorem nextU_drop (l : List UInt8) (i : Nat) : nextU l i = nextU (l.drop i) 0 := by
 unfold nextU
 simp only [inB_drop l i, Nat.zero_add, List.getD_eq_getElem?_getD, List.getElem?_drop, Nat.add_zero]
theorem inB_cons (c : UInt8) (l : List UInt8) (i a b : Nat) : inBy (c :: l) (i + 1) a b = inBy l i a b := id rfl
theorem inB_head (c : UInt8) (l : List UInt8) (a b : Nat) : inBy (c :: l) 0 a b = tailB a b c := id rfl
theorem inB_nil (i a b : Nat) : inBy [] i a b = false := id rfl
set_option maxHeartbeats 4000000 in
theorem utf8_next0 (c : UInt8) (l : List UInt8) : utf8L (c :: l) = match nextU (c :: l) 0 with
 | none => false
 | some k => utf8L ((c :: l).drop k) := by
 unfold nextU
 simp only [Nat.zero_add, inB_cons, show (c :: l).getD 0 0 = c from rfl]
 conv => lhs; unfold utf8L
 by_cases h1 : c.toNat < 128
 ·simp [h1]
 by_cases h2 : 194 <= c.toNat /\ c.toNat <= 223
 ·have g1 : ¬ c.toNat = 224 := by omega
  have g2 : ¬ (225 <= c.toNat /\ c.toNat <= 236 \/ c.toNat = 238 \/ c.toNat = 239) := by omega
  have g3 : ¬ c.toNat = 237 := by omega
  have g4 : ¬ c.toNat = 240 := by omega
  have g5 : ¬ (241 <= c.toNat /\ c.toNat <= 243) := by omega
  have g6 : ¬ c.toNat = 244 := by omega
  simp only [h1, h2, g1, g2, g3, g4, g5, g6, if_false, if_true, false_and, true_and, and_self]
  cases l with
  | nil => simp [inB_nil]
  | cons b l => simp only [inB_head]; cases tailB 128 191 b <;> simp
 by_cases h3 : c.toNat = 224
 ·have g2 : ¬ (225 <= c.toNat /\ c.toNat <= 236 \/ c.toNat = 238 \/ c.toNat = 239) := by omega
  have g3 : ¬ c.toNat = 237 := by omega
  have g4 : ¬ c.toNat = 240 := by omega
  have g5 : ¬ (241 <= c.toNat /\ c.toNat <= 243) := by omega
  have g6 : ¬ c.toNat = 244 := by omega
  rw [h3] at h1 h2 g2 g3 g4 g5 g6
  simp only [h3, h1, h2, g2, g3, g4, g5, g6, if_false, if_true, false_and, true_and, and_self]
  cases l with
  | nil => simp [inB_nil]
  | cons b l => cases l with
   | nil => simp [inB_nil, inB_cons]
   | cons d l => simp only [inB_head, inB_cons]; cases tailB 160 191 b <;> cases tailB 128 191 d <;> simp
 by_cases h4 : c.toNat = 237
 ·have g2 : ¬ (225 <= c.toNat /\ c.toNat <= 236 \/ c.toNat = 238 \/ c.toNat = 239) := by omega
  have g4 : ¬ c.toNat = 240 := by omega
  have g5 : ¬ (241 <= c.toNat /\ c.toNat <= 243) := by omega
  have g6 : ¬ c.toNat = 244 := by omega
  rw [h4] at h1 h2 h3 g2 g4 g5 g6
  simp only [h4, h1, h2, h3, g2, g4, g5, g6, if_false, if_true, false_and, true_and, and_self]
  cases l with
  | nil => simp [inB_nil]
  | cons b l => cases l with
   | nil => simp [inB_nil, inB_cons]
   | cons d l => simp only [inB_head, inB_cons]; cases tailB 128 159 b <;> cases tailB 128 191 d <;> simp
 by_cases h5 : 225 <= c.toNat /\ c.toNat <= 239
 ·have g2 : (225 <= c.toNat /\ c.toNat <= 236 \/ c.toNat = 238 \/ c.toNat = 239) := by omega
  have g4 : ¬ c.toNat = 240 := by omega
  have g5 : ¬ (241 <= c.toNat /\ c.toNat <= 243) := by omega
  have g6 : ¬ c.toNat = 244 := by omega
  simp only [h4, h1, h2, h3, h5, g2, g4, g5, g6, if_false, if_true, false_and, true_and, and_self]
  cases l with
  | nil => simp [inB_nil]
  | cons b l => cases l with
   | nil => simp [inB_nil, inB_cons]
   | cons d l => simp only [inB_head, inB_cons]; cases tailB 128 191 b <;> cases tailB 128 191 d <;> simp [show c.toNat <= 236 \/ c.toNat = 238 \/ c.toNat = 239 by omega]
 have g2 : ¬ (225 <= c.toNat /\ c.toNat <= 236 \/ c.toNat = 238 \/ c.toNat = 239) := by omega
 by_cases h7 : c.toNat = 240
 ·have g5 : ¬ (241 <= c.toNat /\ c.toNat <= 243) := by omega
  have g6 : ¬ c.toNat = 244 := by omega
  rw [h7] at h1 h2 h3 h4 h5 g2 g5 g6
  simp only [h7, h4, h1, h2, h3, h5, g2, g5, g6, if_false, if_true, false_and, true_and, and_self]
  cases l with
  | nil => simp [inB_nil]
  | cons b l => cases l with
   | nil => simp [inB_nil, inB_cons]
   | cons d l => cases l with
    | nil => simp [inB_nil, inB_cons]
    | cons e l => simp only [inB_head, inB_cons]; cases tailB 144 191 b <;> cases tailB 128 191 d <;> cases tailB 128 191 e <;> simp
 by_cases h8 : 241 <= c.toNat /\ c.toNat <= 243
 ·have g6 : ¬ c.toNat = 244 := by omega
  simp only [h7, h8, h4, h1, h2, h3, h5, g2, g6, if_false, if_true, false_and, true_and, and_self]
  cases l with
  | nil => simp [inB_nil]
  | cons b l => cases l with
   | nil => simp [inB_nil, inB_cons]
   | cons d l => cases l with
    | nil => simp [inB_nil, inB_cons]
    | cons e l => simp only [inB_head, inB_cons]; cases tailB 128 191 b <;> cases tailB 128 191 d <;> cases tailB 128 191 e <;> simp
 by_cases h9 : c.toNat = 244
 ·rw [h9] at h1 h2 h3 h4 h5 h7 h8 g2
  simp only [h9, h7, h8, h4, h1, h2, h3, h5, g2, if_false, if_true, false_and, true_and, and_self]
  cases l with
  | nil => simp [inB_nil]
  | cons b l => cases l with
   | nil => simp [inB_nil, inB_cons]
   | cons d l => cases l with
    | nil => simp [inB_nil, inB_cons]
    | cons e l => simp only [inB_head, inB_cons]; cases tailB 128 143 b <;> cases tailB 128 191 d <;> cases tailB 128 191 e <;> simp
 simp only [h9, h7, h8, h4, h1, h2, h3, h5, g2, if_false, if_true, false_and, true_and, and_self]
 cases l with
 | nil => rfl
 | cons b l => cases l with
  | nil => rfl
  | cons d l => cases l with
   | nil => rfl
   | cons e l => rfl
theorem utf8_next {l : List UInt8} {i : Nat} (h : i < l.length) : utf8L (l.drop i) = match nextU l i with
 | none => false
 | some k => utf8L (l.drop (i + k)) := by
 rw [nextU_drop, List.drop_eq_getElem_cons h, utf8_next0, <- List.drop_eq_getElem_cons h]
 cases nextU (l.drop i) 0 with
 | none => rfl
 | some k => simp only; rw [List.drop_drop]
theorem inB_lt {l : List UInt8} {i a b : Nat} (h : inBy l i a b = true) : i < l.length := by
 unfold inBy at h
 cases hc : l[i]? with
 | none => rw [hc] at h; cases h
 | some c => exact (List.getElem?_eq_some_iff.1 hc).1
theorem nextU_le {l : List UInt8} {i k : Nat} (hi : i < l.length) (h : nextU l i = some k) : 0 < k /\ i + k <= l.length := by
 unfold nextU at h
 simp only at h
 split at h
 ·cases h; omega
 ·repeat' (split at h)
  all_goals first
   | (cases h; rename_i hh; have := inB_lt hh.2; omega)
   | (cases h; rename_i hh; have := inB_lt hh.2.2; omega)
   | (cases h; rename_i hh; have := inB_lt hh.2.2.2; omega)
   | cases h
end Go.Proofs.Ytidoofdofdhjpaa
namespace Go.Proofs.Ytidoofdofdhjpaa
open Go Go.RowKit
set_option linter.unusedVariables false
set_option linter.unusedSimpArgs false
set_option maxHeartbeats 2000000 in
theorem in_any (l : List UInt8) (i a b : Nat) (hi : i < 9223372036854775807) (w : World) : Calls Try.prog 102 #[.string (bs l), .int .i64 (i : Int), .int .i64 (a : Int), .int .i64 (b : Int)] w (Pure w (.bool (inBy l i a b))) := by
 by_cases hlt : i < l.length
 ·have hl : inBy l i a b = (decide (a <= (l[i]'hlt).toNat) && decide ((l[i]'hlt).toNat <= b)) := by unfold inBy; rw [List.getElem?_eq_getElem hlt]
  have hq : i < (bs l).size := by rw [bs_size]; exact hlt
  have hq2 : (i : Int) < ((bs l).size : Int) := by omega
  have hget : (bs l)[i]'hq = l[i]'hlt := bs_get _ _ _
  have HL := Lib.hid hl
  have hc8 : ((l[i]'hlt).toNat : Int) <= 255 := by have := UInt8.toNat_lt (l[i]'hlt); omega
  generalize l[i]'hlt = c at *
  clear hl
  by_cases h1 : a <= c.toNat
  ·have h1z : (c.toNat : Int) >= (a : Int) := by omega
   by_cases h2 : c.toNat <= b
   ·have h2z : (c.toNat : Int) <= (b : Int) := by omega
    have HR : Hid (inBy l i a b = true) := by unfold Hid; rw [HL.out]; simp [h1, h2]
    clear hlt
    go_enter Try.func102, Try.ntmps102
    go_wp2
    go_ret
    exact ⟨by rw [HR.out]; rfl, rfl⟩
   ·have h2z : ¬ (c.toNat : Int) <= (b : Int) := by omega
    have HR : Hid (inBy l i a b = false) := by unfold Hid; rw [HL.out]; simp; omega
    clear hlt
    go_enter Try.func102, Try.ntmps102
    go_wp2
    go_ret
    exact ⟨by rw [HR.out]; rfl, rfl⟩
  ·have h1z : ¬ (c.toNat : Int) >= (a : Int) := by omega
   have HR : Hid (inBy l i a b = false) := by unfold Hid; rw [HL.out]; simp; omega
   clear hlt
   go_enter Try.func102, Try.ntmps102
   go_wp2
   go_ret
   exact ⟨by rw [HR.out]; rfl, rfl⟩
 ·have hq2 : ¬ (i : Int) < ((bs l).size : Int) := by rw [bs_size]; omega
  have HR : Hid (inBy l i a b = false) := by unfold Hid inBy; rw [List.getElem?_eq_none (by omega)]
  clear hlt
  go_enter Try.func102, Try.ntmps102
  go_wp2
  go_ret
  exact ⟨by rw [HR.out]; rfl, rfl⟩
def UtL (l : List UInt8) (w0 : World) (i : Value) (w : World) : Prop := ∃ k : Nat, k <= l.length /\ i = .int .i64 (k : Int) /\ utf8L l = utf8L (l.drop k) /\ w0 = w
set_option maxHeartbeats 64000000 in
set_option maxRecDepth 1000000 in
theorem refutf8_any (l : List UInt8) (hl : l.length < 9223372036854775800) (w : World) : Calls Try.prog 83 #[.string (bs l)] w (Pure w (.bool (utf8L l))) := by
 obtain ⟨v, hv⟩ : ∃ v, utf8L l = v := ⟨_, rfl⟩
 rw [hv]
 have HV := Lib.hid hv
 clear hv
 go_enter Try.func83, Try.ntmps83
 go_wp2
 go_loopw [3] (UtL l w) (fun i _ => l.length - (intOf i).toNat)
 case atStart => exact ⟨0, Nat.zero_le _, rfl, rfl, rfl⟩
 case round =>
  obtain ⟨k, hk, rfl, hu, rfl⟩ := hrel
  have HU := Lib.hid hu
  clear hu
  by_cases hlt : k < l.length
  ·have hltz : (k : Int) < ((bs l).size : Int) := by rw [bs_size]; omega
   have hq : k < (bs l).size := by rw [bs_size]; exact hlt
   have hget : (bs l)[k]'hq = l.getD k 0 := by rw [bs_get, List.getD_eq_getElem?_getD, List.getElem?_eq_getElem hlt]; rfl
   have HN := Lib.hid (utf8_next hlt)
   have HNL := Lib.hid (fun j (h : nextU l k = some j) => nextU_le hlt h)
   have HC : Hid (nextU l k = _) := rfl
   have I1 : Hid (∀ w, Calls Try.prog 102 #[.string (bs l), .int .i64 ((k : Int) + 1), .int .i64 128, .int .i64 191] w (Pure w (.bool (inBy l (k + 1) 128 191)))) := fun w => in_any l (k + 1) 128 191 (by omega) w
   have I2 : Hid (∀ w, Calls Try.prog 102 #[.string (bs l), .int .i64 ((k : Int) + 2), .int .i64 128, .int .i64 191] w (Pure w (.bool (inBy l (k + 2) 128 191)))) := fun w => in_any l (k + 2) 128 191 (by omega) w
   have I3 : Hid (∀ w, Calls Try.prog 102 #[.string (bs l), .int .i64 ((k : Int) + 3), .int .i64 128, .int .i64 191] w (Pure w (.bool (inBy l (k + 3) 128 191)))) := fun w => in_any l (k + 3) 128 191 (by omega) w
   have J1 : Hid (∀ w, Calls Try.prog 102 #[.string (bs l), .int .i64 ((k : Int) + 1), .int .i64 160, .int .i64 191] w (Pure w (.bool (inBy l (k + 1) 160 191)))) := fun w => in_any l (k + 1) 160 191 (by omega) w
   have J2 : Hid (∀ w, Calls Try.prog 102 #[.string (bs l), .int .i64 ((k : Int) + 1), .int .i64 128, .int .i64 159] w (Pure w (.bool (inBy l (k + 1) 128 159)))) := fun w => in_any l (k + 1) 128 159 (by omega) w
   have J3 : Hid (∀ w, Calls Try.prog 102 #[.string (bs l), .int .i64 ((k : Int) + 1), .int .i64 144, .int .i64 191] w (Pure w (.bool (inBy l (k + 1) 144 191)))) := fun w => in_any l (k + 1) 144 191 (by omega) w
   have J4 : Hid (∀ w, Calls Try.prog 102 #[.string (bs l), .int .i64 ((k : Int) + 1), .int .i64 128, .int .i64 143] w (Pure w (.bool (inBy l (k + 1) 128 143)))) := fun w => in_any l (k + 1) 128 143 (by omega) w
   conv at HC => arg 1; rhs; unfold nextU
   have hc8 : ((l.getD k 0).toNat : Int) <= 255 := by have := UInt8.toNat_lt (l.getD k 0); omega
   generalize l.getD k 0 = c at *
   simp only at HC
   generalize inBy l (k + 1) 128 191 = t1 at *
   generalize inBy l (k + 2) 128 191 = t2 at *
   generalize inBy l (k + 3) 128 191 = t3 at *
   generalize inBy l (k + 1) 160 191 = s1 at *
   generalize inBy l (k + 1) 128 159 = s2 at *
   generalize inBy l (k + 1) 144 191 = s3 at *
   generalize inBy l (k + 1) 128 143 = s4 at *
   clear hlt
   go_wp2_with fail
   refine (I1.out _).mono ?_; rintro e w' ⟨rfl, rfl⟩
   go_wp2_with fail
   refine (I2.out _).mono ?_; rintro e w' ⟨rfl, rfl⟩
   go_wp2_with fail
   refine (I3.out _).mono ?_; rintro e w' ⟨rfl, rfl⟩
   generalize c.toNat = n at *
   clear hget hq
   by_cases r0 : 0 <= n /\ n <= 127
   ·have y : (n : Int) >= 0 := by omega
    have qlt128 : (n : Int) < 128 := by omega
    have qge194 : ¬ (n : Int) >= 194 := by omega
    have qle223 : (n : Int) <= 223 := by omega
    have qge225 : ¬ (n : Int) >= 225 := by omega
    have qle236 : (n : Int) <= 236 := by omega
    have qge241 : ¬ (n : Int) >= 241 := by omega
    have qle243 : (n : Int) <= 243 := by omega
    have z224 : ((n : Int) == 224) = false := by rw [beq_eq_false_iff_ne]; omega
    have z238 : ((n : Int) == 238) = false := by rw [beq_eq_false_iff_ne]; omega
    have z239 : ((n : Int) == 239) = false := by rw [beq_eq_false_iff_ne]; omega
    have z237 : ((n : Int) == 237) = false := by rw [beq_eq_false_iff_ne]; omega
    have z240 : ((n : Int) == 240) = false := by rw [beq_eq_false_iff_ne]; omega
    have z244 : ((n : Int) == 244) = false := by rw [beq_eq_false_iff_ne]; omega
    have SC := Lib.hid (And.intro r0.1 r0.2)
    clear r0 y
    have HX : Hid (nextU l k = some 1) := by unfold Hid; rw [HC.out]; have h1 := SC.out.1; have h2 := SC.out.2; simp [show (n < 128) by omega, show ¬ (194 <= n /\ n <= 223) by omega, show ¬ (n = 224) by omega, show ¬ ((225 <= n /\ n <= 236) \/ n = 238 \/ n = 239) by omega, show ¬ (n = 237) by omega, show ¬ (n = 240) by omega, show ¬ (241 <= n /\ n <= 243) by omega, show ¬ (n = 244) by omega]
    have hx := HNL.out 1 HX.out
    have HU2 : Hid (utf8L l = utf8L (l.drop (k + 1))) := HU.out.trans (by rw [HN.out, HX.out])
    go_wp2
    go_roundw
    case rel => exact ⟨k + 1, by omega, by go_num, HU2.out, rfl⟩
    case measure => simp [intOf] <;> omega
   by_cases r128 : 128 <= n /\ n <= 193
   ·have y : (n : Int) >= 128 := by omega
    have qlt128 : ¬ (n : Int) < 128 := by omega
    have qge194 : ¬ (n : Int) >= 194 := by omega
    have qle223 : (n : Int) <= 223 := by omega
    have qge225 : ¬ (n : Int) >= 225 := by omega
    have qle236 : (n : Int) <= 236 := by omega
    have qge241 : ¬ (n : Int) >= 241 := by omega
    have qle243 : (n : Int) <= 243 := by omega
    have z224 : ((n : Int) == 224) = false := by rw [beq_eq_false_iff_ne]; omega
    have z238 : ((n : Int) == 238) = false := by rw [beq_eq_false_iff_ne]; omega
    have z239 : ((n : Int) == 239) = false := by rw [beq_eq_false_iff_ne]; omega
    have z237 : ((n : Int) == 237) = false := by rw [beq_eq_false_iff_ne]; omega
    have z240 : ((n : Int) == 240) = false := by rw [beq_eq_false_iff_ne]; omega
    have z244 : ((n : Int) == 244) = false := by rw [beq_eq_false_iff_ne]; omega
    have SC := Lib.hid (And.intro r128.1 r128.2)
    clear r0 r128 y
    have HX : Hid (nextU l k = none) := by unfold Hid; rw [HC.out]; have h1 := SC.out.1; have h2 := SC.out.2; simp [show ¬ (n < 128) by omega, show ¬ (194 <= n /\ n <= 223) by omega, show ¬ (n = 224) by omega, show ¬ ((225 <= n /\ n <= 236) \/ n = 238 \/ n = 239) by omega, show ¬ (n = 237) by omega, show ¬ (n = 240) by omega, show ¬ (241 <= n /\ n <= 243) by omega, show ¬ (n = 244) by omega]
    have HR : Hid (v = false) := by unfold Hid; rw [<- HV.out, HU.out, HN.out, HX.out]
    go_wp2
    go_ret
    exact ⟨by rw [HR.out]; rfl, rfl⟩
   by_cases r194 : 194 <= n /\ n <= 223
   ·have y : (n : Int) >= 194 := by omega
    have qlt128 : ¬ (n : Int) < 128 := by omega
    have qge194 : (n : Int) >= 194 := by omega
    have qle223 : (n : Int) <= 223 := by omega
    have qge225 : ¬ (n : Int) >= 225 := by omega
    have qle236 : (n : Int) <= 236 := by omega
    have qge241 : ¬ (n : Int) >= 241 := by omega
    have qle243 : (n : Int) <= 243 := by omega
    have z224 : ((n : Int) == 224) = false := by rw [beq_eq_false_iff_ne]; omega
    have z238 : ((n : Int) == 238) = false := by rw [beq_eq_false_iff_ne]; omega
    have z239 : ((n : Int) == 239) = false := by rw [beq_eq_false_iff_ne]; omega
    have z237 : ((n : Int) == 237) = false := by rw [beq_eq_false_iff_ne]; omega
    have z240 : ((n : Int) == 240) = false := by rw [beq_eq_false_iff_ne]; omega
    have z244 : ((n : Int) == 244) = false := by rw [beq_eq_false_iff_ne]; omega
    have SC := Lib.hid (And.intro r194.1 r194.2)
    clear r0 r128 r194 y
    cases t1 with
    | false =>
     have HX : Hid (nextU l k = none) := by unfold Hid; rw [HC.out]; have h1 := SC.out.1; have h2 := SC.out.2; simp [show ¬ (n < 128) by omega, show (194 <= n /\ n <= 223) by omega, show ¬ (n = 224) by omega, show ¬ ((225 <= n /\ n <= 236) \/ n = 238 \/ n = 239) by omega, show ¬ (n = 237) by omega, show ¬ (n = 240) by omega, show ¬ (241 <= n /\ n <= 243) by omega, show ¬ (n = 244) by omega]
     have HR : Hid (v = false) := by unfold Hid; rw [<- HV.out, HU.out, HN.out, HX.out]
     go_wp2
     go_ret
     exact ⟨by rw [HR.out]; rfl, rfl⟩
    | true =>
     have HX : Hid (nextU l k = some 2) := by unfold Hid; rw [HC.out]; have h1 := SC.out.1; have h2 := SC.out.2; simp [show ¬ (n < 128) by omega, show (194 <= n /\ n <= 223) by omega, show ¬ (n = 224) by omega, show ¬ ((225 <= n /\ n <= 236) \/ n = 238 \/ n = 239) by omega, show ¬ (n = 237) by omega, show ¬ (n = 240) by omega, show ¬ (241 <= n /\ n <= 243) by omega, show ¬ (n = 244) by omega]
     have hx := HNL.out 2 HX.out
     have HU2 : Hid (utf8L l = utf8L (l.drop (k + 2))) := HU.out.trans (by rw [HN.out, HX.out])
     go_wp2
     go_roundw
     case rel => exact ⟨k + 2, by omega, by go_num, HU2.out, rfl⟩
     case measure => simp [intOf] <;> omega
   by_cases r224 : n = 224
   ·subst r224
    clear hc8
    cases s1 with
    | false =>
     have HX : Hid (nextU l k = none) := by unfold Hid; rw [HC.out]; simp
     have HR : Hid (v = false) := by unfold Hid; rw [<- HV.out, HU.out, HN.out, HX.out]
     go_wp2_with ((with_reducible refine (J1.out _).mono ?_); rintro e w' ⟨rfl, rfl⟩)
     go_ret
     exact ⟨by rw [HR.out]; rfl, rfl⟩
    | true =>
     cases t2 with
     | false =>
      have HX : Hid (nextU l k = none) := by unfold Hid; rw [HC.out]; simp
      have HR : Hid (v = false) := by unfold Hid; rw [<- HV.out, HU.out, HN.out, HX.out]
      go_wp2_with ((with_reducible refine (J1.out _).mono ?_); rintro e w' ⟨rfl, rfl⟩)
      go_ret
      exact ⟨by rw [HR.out]; rfl, rfl⟩
     | true =>
      have HX : Hid (nextU l k = some 3) := by unfold Hid; rw [HC.out]; simp
      have hx := HNL.out 3 HX.out
      have HU2 : Hid (utf8L l = utf8L (l.drop (k + 3))) := HU.out.trans (by rw [HN.out, HX.out])
      go_wp2_with ((with_reducible refine (J1.out _).mono ?_); rintro e w' ⟨rfl, rfl⟩)
      go_roundw
      case rel => exact ⟨k + 3, by omega, by go_num, HU2.out, rfl⟩
      case measure => simp [intOf] <;> omega
   by_cases r225 : 225 <= n /\ n <= 236
   ·have y : (n : Int) >= 225 := by omega
    have qlt128 : ¬ (n : Int) < 128 := by omega
    have qge194 : (n : Int) >= 194 := by omega
    have qle223 : ¬ (n : Int) <= 223 := by omega
    have qge225 : (n : Int) >= 225 := by omega
    have qle236 : (n : Int) <= 236 := by omega
    have qge241 : ¬ (n : Int) >= 241 := by omega
    have qle243 : (n : Int) <= 243 := by omega
    have z224 : ((n : Int) == 224) = false := by rw [beq_eq_false_iff_ne]; omega
    have z238 : ((n : Int) == 238) = false := by rw [beq_eq_false_iff_ne]; omega
    have z239 : ((n : Int) == 239) = false := by rw [beq_eq_false_iff_ne]; omega
    have z237 : ((n : Int) == 237) = false := by rw [beq_eq_false_iff_ne]; omega
    have z240 : ((n : Int) == 240) = false := by rw [beq_eq_false_iff_ne]; omega
    have z244 : ((n : Int) == 244) = false := by rw [beq_eq_false_iff_ne]; omega
    have SC := Lib.hid (And.intro r225.1 r225.2)
    clear r0 r128 r194 r224 r225 y
    cases t1 with
    | false =>
     have HX : Hid (nextU l k = none) := by unfold Hid; rw [HC.out]; have h1 := SC.out.1; have h2 := SC.out.2; simp [show ¬ (n < 128) by omega, show ¬ (194 <= n /\ n <= 223) by omega, show ¬ (n = 224) by omega, show ((225 <= n /\ n <= 236) \/ n = 238 \/ n = 239) by omega, show ¬ (n = 237) by omega, show ¬ (n = 240) by omega, show ¬ (241 <= n /\ n <= 243) by omega, show ¬ (n = 244) by omega]
     have HR : Hid (v = false) := by unfold Hid; rw [<- HV.out, HU.out, HN.out, HX.out]
     go_wp2
     go_ret
     exact ⟨by rw [HR.out]; rfl, rfl⟩
    | true =>
     cases t2 with
     | false =>
      have HX : Hid (nextU l k = none) := by unfold Hid; rw [HC.out]; have h1 := SC.out.1; have h2 := SC.out.2; simp [show ¬ (n < 128) by omega, show ¬ (194 <= n /\ n <= 223) by omega, show ¬ (n = 224) by omega, show ((225 <= n /\ n <= 236) \/ n = 238 \/ n = 239) by omega, show ¬ (n = 237) by omega, show ¬ (n = 240) by omega, show ¬ (241 <= n /\ n <= 243) by omega, show ¬ (n = 244) by omega]
      have HR : Hid (v = false) := by unfold Hid; rw [<- HV.out, HU.out, HN.out, HX.out]
      go_wp2
      go_ret
      exact ⟨by rw [HR.out]; rfl, rfl⟩
     | true =>
      have HX : Hid (nextU l k = some 3) := by unfold Hid; rw [HC.out]; have h1 := SC.out.1; have h2 := SC.out.2; simp [show ¬ (n < 128) by omega, show ¬ (194 <= n /\ n <= 223) by omega, show ¬ (n = 224) by omega, show ((225 <= n /\ n <= 236) \/ n = 238 \/ n = 239) by omega, show ¬ (n = 237) by omega, show ¬ (n = 240) by omega, show ¬ (241 <= n /\ n <= 243) by omega, show ¬ (n = 244) by omega]
      have hx := HNL.out 3 HX.out
      have HU2 : Hid (utf8L l = utf8L (l.drop (k + 3))) := HU.out.trans (by rw [HN.out, HX.out])
      go_wp2
      go_roundw
      case rel => exact ⟨k + 3, by omega, by go_num, HU2.out, rfl⟩
      case measure => simp [intOf] <;> omega
   by_cases r237 : n = 237
   ·subst r237
    clear hc8
    cases s2 with
    | false =>
     have HX : Hid (nextU l k = none) := by unfold Hid; rw [HC.out]; simp
     have HR : Hid (v = false) := by unfold Hid; rw [<- HV.out, HU.out, HN.out, HX.out]
     go_wp2_with ((with_reducible refine (J2.out _).mono ?_); rintro e w' ⟨rfl, rfl⟩)
     go_ret
     exact ⟨by rw [HR.out]; rfl, rfl⟩
    | true =>
     cases t2 with
     | false =>
      have HX : Hid (nextU l k = none) := by unfold Hid; rw [HC.out]; simp
      have HR : Hid (v = false) := by unfold Hid; rw [<- HV.out, HU.out, HN.out, HX.out]
      go_wp2_with ((with_reducible refine (J2.out _).mono ?_); rintro e w' ⟨rfl, rfl⟩)
      go_ret
      exact ⟨by rw [HR.out]; rfl, rfl⟩
     | true =>
      have HX : Hid (nextU l k = some 3) := by unfold Hid; rw [HC.out]; simp
      have hx := HNL.out 3 HX.out
      have HU2 : Hid (utf8L l = utf8L (l.drop (k + 3))) := HU.out.trans (by rw [HN.out, HX.out])
      go_wp2_with ((with_reducible refine (J2.out _).mono ?_); rintro e w' ⟨rfl, rfl⟩)
      go_roundw
      case rel => exact ⟨k + 3, by omega, by go_num, HU2.out, rfl⟩
      case measure => simp [intOf] <;> omega
   by_cases r238 : n = 238
   ·subst r238
    clear hc8
    cases t1 with
    | false =>
     have HX : Hid (nextU l k = none) := by unfold Hid; rw [HC.out]; simp
     have HR : Hid (v = false) := by unfold Hid; rw [<- HV.out, HU.out, HN.out, HX.out]
     go_wp2
     go_ret
     exact ⟨by rw [HR.out]; rfl, rfl⟩
    | true =>
     cases t2 with
     | false =>
      have HX : Hid (nextU l k = none) := by unfold Hid; rw [HC.out]; simp
      have HR : Hid (v = false) := by unfold Hid; rw [<- HV.out, HU.out, HN.out, HX.out]
      go_wp2
      go_ret
      exact ⟨by rw [HR.out]; rfl, rfl⟩
     | true =>
      have HX : Hid (nextU l k = some 3) := by unfold Hid; rw [HC.out]; simp
      have hx := HNL.out 3 HX.out
      have HU2 : Hid (utf8L l = utf8L (l.drop (k + 3))) := HU.out.trans (by rw [HN.out, HX.out])
      go_wp2
      go_roundw
      case rel => exact ⟨k + 3, by omega, by go_num, HU2.out, rfl⟩
      case measure => simp [intOf] <;> omega
   by_cases r239 : n = 239
   ·subst r239
    clear hc8
    cases t1 with
    | false =>
     have HX : Hid (nextU l k = none) := by unfold Hid; rw [HC.out]; simp
     have HR : Hid (v = false) := by unfold Hid; rw [<- HV.out, HU.out, HN.out, HX.out]
     go_wp2
     go_ret
     exact ⟨by rw [HR.out]; rfl, rfl⟩
    | true =>
     cases t2 with
     | false =>
      have HX : Hid (nextU l k = none) := by unfold Hid; rw [HC.out]; simp
      have HR : Hid (v = false) := by unfold Hid; rw [<- HV.out, HU.out, HN.out, HX.out]
      go_wp2
      go_ret
      exact ⟨by rw [HR.out]; rfl, rfl⟩
     | true =>
      have HX : Hid (nextU l k = some 3) := by unfold Hid; rw [HC.out]; simp
      have hx := HNL.out 3 HX.out
      have HU2 : Hid (utf8L l = utf8L (l.drop (k + 3))) := HU.out.trans (by rw [HN.out, HX.out])
      go_wp2
      go_roundw
      case rel => exact ⟨k + 3, by omega, by go_num, HU2.out, rfl⟩
      case measure => simp [intOf] <;> omega
   by_cases r240 : n = 240
   ·subst r240
    clear hc8
    cases s3 with
    | false =>
     have HX : Hid (nextU l k = none) := by unfold Hid; rw [HC.out]; simp
     have HR : Hid (v = false) := by unfold Hid; rw [<- HV.out, HU.out, HN.out, HX.out]
     go_wp2_with ((with_reducible refine (J3.out _).mono ?_); rintro e w' ⟨rfl, rfl⟩)
     go_ret
     exact ⟨by rw [HR.out]; rfl, rfl⟩
    | true =>
     cases t2 with
     | false =>
      have HX : Hid (nextU l k = none) := by unfold Hid; rw [HC.out]; simp
      have HR : Hid (v = false) := by unfold Hid; rw [<- HV.out, HU.out, HN.out, HX.out]
      go_wp2_with ((with_reducible refine (J3.out _).mono ?_); rintro e w' ⟨rfl, rfl⟩)
      go_ret
      exact ⟨by rw [HR.out]; rfl, rfl⟩
     | true =>
      cases t3 with
      | false =>
       have HX : Hid (nextU l k = none) := by unfold Hid; rw [HC.out]; simp
       have HR : Hid (v = false) := by unfold Hid; rw [<- HV.out, HU.out, HN.out, HX.out]
       go_wp2_with ((with_reducible refine (J3.out _).mono ?_); rintro e w' ⟨rfl, rfl⟩)
       go_ret
       exact ⟨by rw [HR.out]; rfl, rfl⟩
      | true =>
       have HX : Hid (nextU l k = some 4) := by unfold Hid; rw [HC.out]; simp
       have hx := HNL.out 4 HX.out
       have HU2 : Hid (utf8L l = utf8L (l.drop (k + 4))) := HU.out.trans (by rw [HN.out, HX.out])
       go_wp2_with ((with_reducible refine (J3.out _).mono ?_); rintro e w' ⟨rfl, rfl⟩)
       go_roundw
       case rel => exact ⟨k + 4, by omega, by go_num, HU2.out, rfl⟩
       case measure => simp [intOf] <;> omega
   by_cases r241 : 241 <= n /\ n <= 243
   ·have y : (n : Int) >= 241 := by omega
    have qlt128 : ¬ (n : Int) < 128 := by omega
    have qge194 : (n : Int) >= 194 := by omega
    have qle223 : ¬ (n : Int) <= 223 := by omega
    have qge225 : (n : Int) >= 225 := by omega
    have qle236 : ¬ (n : Int) <= 236 := by omega
    have qge241 : (n : Int) >= 241 := by omega
    have qle243 : (n : Int) <= 243 := by omega
    have z224 : ((n : Int) == 224) = false := by rw [beq_eq_false_iff_ne]; omega
    have z238 : ((n : Int) == 238) = false := by rw [beq_eq_false_iff_ne]; omega
    have z239 : ((n : Int) == 239) = false := by rw [beq_eq_false_iff_ne]; omega
    have z237 : ((n : Int) == 237) = false := by rw [beq_eq_false_iff_ne]; omega
    have z240 : ((n : Int) == 240) = false := by rw [beq_eq_false_iff_ne]; omega
    have z244 : ((n : Int) == 244) = false := by rw [beq_eq_false_iff_ne]; omega
    have SC := Lib.hid (And.intro r241.1 r241.2)
    clear r0 r128 r194 r224 r225 r237 r238 r239 r240 r241 y
    cases t1 with
    | false =>
     have HX : Hid (nextU l k = none) := by unfold Hid; rw [HC.out]; have h1 := SC.out.1; have h2 := SC.out.2; simp [show ¬ (n < 128) by omega, show ¬ (194 <= n /\ n <= 223) by omega, show ¬ (n = 224) by omega, show ¬ ((225 <= n /\ n <= 236) \/ n = 238 \/ n = 239) by omega, show ¬ (n = 237) by omega, show ¬ (n = 240) by omega, show (241 <= n /\ n <= 243) by omega, show ¬ (n = 244) by omega]
     have HR : Hid (v = false) := by unfold Hid; rw [<- HV.out, HU.out, HN.out, HX.out]
     go_wp2
     go_ret
     exact ⟨by rw [HR.out]; rfl, rfl⟩
    | true =>
     cases t2 with
     | false =>
      have HX : Hid (nextU l k = none) := by unfold Hid; rw [HC.out]; have h1 := SC.out.1; have h2 := SC.out.2; simp [show ¬ (n < 128) by omega, show ¬ (194 <= n /\ n <= 223) by omega, show ¬ (n = 224) by omega, show ¬ ((225 <= n /\ n <= 236) \/ n = 238 \/ n = 239) by omega, show ¬ (n = 237) by omega, show ¬ (n = 240) by omega, show (241 <= n /\ n <= 243) by omega, show ¬ (n = 244) by omega]
      have HR : Hid (v = false) := by unfold Hid; rw [<- HV.out, HU.out, HN.out, HX.out]
      go_wp2
      go_ret
      exact ⟨by rw [HR.out]; rfl, rfl⟩
     | true =>
      cases t3 with
      | false =>
       have HX : Hid (nextU l k = none) := by unfold Hid; rw [HC.out]; have h1 := SC.out.1; have h2 := SC.out.2; simp [show ¬ (n < 128) by omega, show ¬ (194 <= n /\ n <= 223) by omega, show ¬ (n = 224) by omega, show ¬ ((225 <= n /\ n <= 236) \/ n = 238 \/ n = 239) by omega, show ¬ (n = 237) by omega, show ¬ (n = 240) by omega, show (241 <= n /\ n <= 243) by omega, show ¬ (n = 244) by omega]
       have HR : Hid (v = false) := by unfold Hid; rw [<- HV.out, HU.out, HN.out, HX.out]
       go_wp2
       go_ret
       exact ⟨by rw [HR.out]; rfl, rfl⟩
      | true =>
       have HX : Hid (nextU l k = some 4) := by unfold Hid; rw [HC.out]; have h1 := SC.out.1; have h2 := SC.out.2; simp [show ¬ (n < 128) by omega, show ¬ (194 <= n /\ n <= 223) by omega, show ¬ (n = 224) by omega, show ¬ ((225 <= n /\ n <= 236) \/ n = 238 \/ n = 239) by omega, show ¬ (n = 237) by omega, show ¬ (n = 240) by omega, show (241 <= n /\ n <= 243) by omega, show ¬ (n = 244) by omega]
       have hx := HNL.out 4 HX.out
       have HU2 : Hid (utf8L l = utf8L (l.drop (k + 4))) := HU.out.trans (by rw [HN.out, HX.out])
       go_wp2
       go_roundw
       case rel => exact ⟨k + 4, by omega, by go_num, HU2.out, rfl⟩
       case measure => simp [intOf] <;> omega
   by_cases r244 : n = 244
   ·subst r244
    clear hc8
    cases s4 with
    | false =>
     have HX : Hid (nextU l k = none) := by unfold Hid; rw [HC.out]; simp
     have HR : Hid (v = false) := by unfold Hid; rw [<- HV.out, HU.out, HN.out, HX.out]
     go_wp2_with ((with_reducible refine (J4.out _).mono ?_); rintro e w' ⟨rfl, rfl⟩)
     go_ret
     exact ⟨by rw [HR.out]; rfl, rfl⟩
    | true =>
     cases t2 with
     | false =>
      have HX : Hid (nextU l k = none) := by unfold Hid; rw [HC.out]; simp
      have HR : Hid (v = false) := by unfold Hid; rw [<- HV.out, HU.out, HN.out, HX.out]
      go_wp2_with ((with_reducible refine (J4.out _).mono ?_); rintro e w' ⟨rfl, rfl⟩)
      go_ret
      exact ⟨by rw [HR.out]; rfl, rfl⟩
     | true =>
      cases t3 with
      | false =>
       have HX : Hid (nextU l k = none) := by unfold Hid; rw [HC.out]; simp
       have HR : Hid (v = false) := by unfold Hid; rw [<- HV.out, HU.out, HN.out, HX.out]
       go_wp2_with ((with_reducible refine (J4.out _).mono ?_); rintro e w' ⟨rfl, rfl⟩)
       go_ret
       exact ⟨by rw [HR.out]; rfl, rfl⟩
      | true =>
       have HX : Hid (nextU l k = some 4) := by unfold Hid; rw [HC.out]; simp
       have hx := HNL.out 4 HX.out
       have HU2 : Hid (utf8L l = utf8L (l.drop (k + 4))) := HU.out.trans (by rw [HN.out, HX.out])
       go_wp2_with ((with_reducible refine (J4.out _).mono ?_); rintro e w' ⟨rfl, rfl⟩)
       go_roundw
       case rel => exact ⟨k + 4, by omega, by go_num, HU2.out, rfl⟩
       case measure => simp [intOf] <;> omega
   by_cases r245 : 245 <= n /\ n <= 255
   ·have y : (n : Int) >= 245 := by omega
    have qlt128 : ¬ (n : Int) < 128 := by omega
    have qge194 : (n : Int) >= 194 := by omega
    have qle223 : ¬ (n : Int) <= 223 := by omega
    have qge225 : (n : Int) >= 225 := by omega
    have qle236 : ¬ (n : Int) <= 236 := by omega
    have qge241 : (n : Int) >= 241 := by omega
    have qle243 : ¬ (n : Int) <= 243 := by omega
    have z224 : ((n : Int) == 224) = false := by rw [beq_eq_false_iff_ne]; omega
    have z238 : ((n : Int) == 238) = false := by rw [beq_eq_false_iff_ne]; omega
    have z239 : ((n : Int) == 239) = false := by rw [beq_eq_false_iff_ne]; omega
    have z237 : ((n : Int) == 237) = false := by rw [beq_eq_false_iff_ne]; omega
    have z240 : ((n : Int) == 240) = false := by rw [beq_eq_false_iff_ne]; omega
    have z244 : ((n : Int) == 244) = false := by rw [beq_eq_false_iff_ne]; omega
    have SC := Lib.hid (And.intro r245.1 r245.2)
    clear r0 r128 r194 r224 r225 r237 r238 r239 r240 r241 r244 r245 y
    have HX : Hid (nextU l k = none) := by unfold Hid; rw [HC.out]; have h1 := SC.out.1; have h2 := SC.out.2; simp [show ¬ (n < 128) by omega, show ¬ (194 <= n /\ n <= 223) by omega, show ¬ (n = 224) by omega, show ¬ ((225 <= n /\ n <= 236) \/ n = 238 \/ n = 239) by omega, show ¬ (n = 237) by omega, show ¬ (n = 240) by omega, show ¬ (241 <= n /\ n <= 243) by omega, show ¬ (n = 244) by omega]
    have HR : Hid (v = false) := by unfold Hid; rw [<- HV.out, HU.out, HN.out, HX.out]
    go_wp2
    go_ret
    exact ⟨by rw [HR.out]; rfl, rfl⟩
   exfalso; omega
  ·obtain rfl : k = l.length := by omega
   have hltz : ¬ ((l.length : Nat) : Int) < ((bs l).size : Int) := by rw [bs_size]; omega
   have HR : Hid (v = true) := by unfold Hid; rw [<- HV.out, HU.out, List.drop_length]; rfl
   go_wp2
   go_ret
   exact ⟨by rw [HR.out]; rfl, rfl⟩
def TxtLp (l : List UInt8) (w0 : World) (i : Value) (w : World) : Prop := ∃ k : Nat, k <= l.length /\ i = .int .i64 (k : Int) /\ (34 : UInt8) ∉ l.take k /\ w0 = w
set_option maxHeartbeats 4000000 in
set_option maxRecDepth 100000 in
theorem reftext_any (l : List UInt8) (hl : l.length < 9223372036854775800) (w : World) : Calls Try.prog 63 #[.string (bs l)] w (Pure w (.bool (textOk l))) := by
 obtain ⟨v, hv⟩ : ∃ v, textOk l = v := ⟨_, rfl⟩
 rw [hv]
 have HV := Lib.hid hv
 clear hv
 go_enter Try.func63, Try.ntmps63
 go_wp2
 go_loopw [3] (TxtLp l w) (fun i _ => l.length - (intOf i).toNat)
 case atStart => exact ⟨0, Nat.zero_le _, rfl, by simp, rfl⟩
 case round =>
  obtain ⟨k, hk, rfl, hu, rfl⟩ := hrel
  have HU := Lib.hid hu
  clear hu
  by_cases hlt : k < l.length
  ·have hltz : (k : Int) < ((bs l).size : Int) := by rw [bs_size]; omega
   have hq : k < (bs l).size := by rw [bs_size]; exact hlt
   have hget : (bs l)[k]'hq = l.getD k 0 := by rw [bs_get, List.getD_eq_getElem?_getD, List.getElem?_eq_getElem hlt]; rfl
   have HT : Hid (l.take (k + 1) = l.take k ++ [l.getD k 0]) := by unfold Hid; rw [List.take_succ_eq_append_getElem hlt, List.getD_eq_getElem?_getD, List.getElem?_eq_getElem hlt]; rfl
   generalize l.getD k 0 = c at *
   by_cases hc : c = 34
   ·subst hc
    have HR : Hid (v = false) := by
     unfold Hid; rw [<- HV.out]; unfold textOk
     have : (34 : UInt8) ∈ l := by
      have : (34 : UInt8) ∈ l.take (k + 1) := by rw [HT.out]; simp
      exact List.mem_of_mem_take this
     simp [this]
    clear hlt
    go_wp2
    go_ret
    exact ⟨by rw [HR.out]; rfl, rfl⟩
   ·have HN : Hid ((34 : UInt8) ∉ l.take (k + 1)) := by unfold Hid; rw [HT.out]; intro h; rcases List.mem_append.1 h with h | h; exact HU.out h; simp at h; exact hc h.symm
    have hcz : ((c.toNat : Int) == 34) = false := by rw [beq_eq_false_iff_ne]; intro e; apply hc; apply UInt8.toNat_inj.1; show _ = 34; omega
    have HLT := Lib.hid hlt
    clear hlt hc
    go_wp2
    go_roundw
    case rel => exact ⟨k + 1, HLT.out, by go_num, HN.out, rfl⟩
    case measure => have := HLT.out; simp [intOf] <;> omega
  ·obtain rfl : k = l.length := by omega
   have hltz : ¬ ((l.length : Nat) : Int) < ((bs l).size : Int) := by rw [bs_size]; omega
   have hno : (34 : UInt8) ∉ l := by have := HU.out; rwa [List.take_length] at this
   have HU8 := Lib.hid (fun w => refutf8_any l hl w)
   by_cases h0 : l = []
   ·have HR : Hid (v = false) := by unfold Hid; rw [<- HV.out]; unfold textOk; simp [h0]
    have hz : ¬ ((bs l).size : Int) > 0 := by rw [bs_size, h0]; decide
    clear hno h0
    go_wp2
    go_ret
    exact ⟨by rw [HR.out]; rfl, rfl⟩
   ·have HR : Hid (v = utf8L l) := by unfold Hid; rw [<- HV.out]; unfold textOk; simp [h0, hno]
    have hz : ((bs l).size : Int) > 0 := by rw [bs_size]; have := List.length_pos_iff.2 h0; omega
    clear hno h0
    go_wp2_with ((with_reducible refine (HU8.out _).mono ?_); rintro e w' ⟨rfl, rfl⟩)
    go_ret
    exact ⟨by rw [HR.out]; rfl, rfl⟩
def sumT (l : List Nd) : Nat := (l.map fun n => n.text.length).sum
def fewB (l : List Nd) : Bool := decide (l.length <= 100) && decide (sumT (l.take 200) <= 2000)
theorem sumT_snoc {l : List Nd} {k : Nat} (h : k < l.length) : sumT (l.take (k + 1)) = sumT (l.take k) + (l.getD k nd0).text.length := by
 unfold sumT
 rw [List.take_succ_eq_append_getElem h, List.map_append, List.sum_append, List.getD_eq_getElem?_getD, List.getElem?_eq_getElem h]; simp
theorem sumT_mem {l : List Nd} {n : Nd} (h : n ∈ l) : n.text.length <= sumT l := by
 unfold sumT
 induction l with
 | nil => cases h
 | cons x l ih =>
  rw [List.map_cons, List.sum_cons]
  rcases List.mem_cons.1 h with rfl | h
  ·omega
  ·have := ih h; omega
theorem few_txt {l : List Nd} (h : fewB l = true) : l.length <= 100 /\ ∀ n ∈ l, n.text.length <= 2000 := by
 unfold fewB at h
 simp only [Bool.and_eq_true, decide_eq_true_iff] at h
 refine ⟨h.1, fun n hn => ?_⟩
 rw [List.take_of_length_le (by omega)] at h
 exact Nat.le_trans (sumT_mem hn) h.2
theorem sumT_bound {l : List Nd} (h : ∀ n ∈ l, n.text.length <= 281474976710656) : sumT l <= l.length * 281474976710656 := by
 unfold sumT
 induction l with
 | nil => simp
 | cons x l ih =>
  rw [List.map_cons, List.sum_cons, List.length_cons]
  have h1 := h x (by simp)
  have h2 := ih (fun n hn => h n (by simp [hn]))
  omega
def FwL (w0 : World) (A : Option Addr) (l : List Nd) (c : Nat) (s i : Value) (w : World) : Prop :=
 ∃ k : Nat, k <= l.length /\ k <= 200 /\ i = .int .i64 (k : Int) /\ s = .int .i64 (sumT (l.take k) : Int) /\ FstS w0 A l c w
set_option maxHeartbeats 4000000 in
set_option maxRecDepth 100000 in
theorem few_any (l : List Nd) (A : Option Addr) (c : Nat) (hl : l.length <= 9223372036854775807) (htx : Txt l) (w : World) (hrow : NRow w A l) :
 Calls Try.prog 8 #[.agg #[.slice A l.length c]] w (Ans w (.bool (fewB l))) := by
 have HB := (Below.refl w.heap.size w).alloc (Nat.le_refl _) (.cells #[.slice A l.length c] 24)
 have HS0 : Hid (FstS w A l c (w.alloc (.cells #[.slice A l.length c] 24))) := ⟨HB, hrow.later HB, Blk.new _ _ _⟩
 have HTX := Lib.hid htx
 clear hrow HB htx
 obtain ⟨v, hv⟩ : ∃ v, fewB l = v := ⟨_, rfl⟩
 rw [hv]
 have HV := Lib.hid hv
 clear hv
 go_enter Try.func8, Try.ntmps8
 go_upto_region 1 with (fail)
 generalize w.alloc (.cells #[.slice A l.length c] 24) = w1 at *
 go_wp2
 go_loopw [3, 4] (FwL w A l c) (fun _ i _ => 200 - (intOf i).toNat)
 case atStart => exact ⟨0, Nat.zero_le _, by omega, rfl, rfl, HS0.out⟩
 case round =>
  obtain ⟨k, hk, hk2, rfl, rfl, hs⟩ := hrel
  have HS := Lib.hid hs
  have e0 := hs.box.cell 0
  simp at e0
  have hbd := sumT_bound (l := l.take k) (fun n hn => HTX.out n (List.mem_of_mem_take hn))
  rw [List.length_take] at hbd
  by_cases hlt : k < l.length
  ·have hltz : (k : Int) < (l.length : Int) := by omega
   by_cases h200 : k < 200
   ·have h2z : (k : Int) < 200 := by omega
    obtain ⟨ba, oa, rfl, -, -⟩ := hs.row k hlt
    obtain ⟨_, _, _, _, _, _, _, _, _, g9⟩ := hs.row.at hlt rfl
    have HN := Lib.hid (sumT_snoc hlt)
    have htk := HTX.out (l.getD k nd0) (by rw [List.getD_eq_getElem?_getD, List.getElem?_eq_getElem hlt]; exact List.getElem_mem _)
    have hbs := bs_size (l.getD k nd0).text
    generalize l.getD k nd0 = n at *
    have hb2 : sumT (l.take k) <= 72057594037927936 := by
     have : min k l.length <= 200 := by omega
     have := Nat.mul_le_mul_right 281474976710656 this
     omega
    generalize sumT (l.take k) = q at *
    have hbz : ((bs n.text).size : Int) = (n.text.length : Int) := by rw [hbs]
    have HBZ := Lib.hid hbz
    have hbz2 : ((bs n.text).size : Int) <= 281474976710656 := by omega
    clear hs hbd hbs hbz
    go_wp2
    go_roundw
    case rel => exact ⟨k + 1, by omega, by omega, by go_num, by have := HN.out; have := HBZ.out; congr 1; omega, HS.out⟩
    case measure => simp [intOf] <;> omega
   ·obtain rfl : k = 200 := by omega
    have HR : Hid (v = false) := by unfold Hid; rw [<- HV.out]; unfold fewB; simp; omega
    have hnz : ¬ (l.length : Int) <= 100 := by omega
    clear hs hbd
    go_wp2
    go_ret
    exact ⟨by rw [HR.out]; rfl, HS.out.bel⟩
  ·obtain rfl : k = l.length := by omega
   have hlast : ¬ ((l.length : Nat) : Int) < (l.length : Int) := by omega
   rw [List.take_length] at *
   by_cases h100 : l.length <= 100
   ·have h1z : (l.length : Int) <= 100 := by omega
    have HR : Hid (v = decide ((sumT l : Int) <= 2000)) := by
     unfold Hid; rw [<- HV.out]; unfold fewB; rw [List.take_of_length_le (by omega)]; simp [h100]; omega
    clear hs hbd h100
    generalize sumT l = q at *
    go_wp2
    go_ret
    exact ⟨by rw [HR.out]; rfl, HS.out.bel⟩
   ·have h1z : ¬ (l.length : Int) <= 100 := by omega
    have HR : Hid (v = false) := by unfold Hid; rw [<- HV.out]; unfold fewB; simp [h100]
    clear hs hbd h100
    go_wp2
    go_ret
    exact ⟨by rw [HR.out]; rfl, HS.out.bel⟩
end Go.Proofs.Ytidoofdofdhjpaa
