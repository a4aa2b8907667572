/- The library's calls on strings, at a byte: walked. -/
import Derived.Test.YtgehepiphdphjaaDoorClassWalks
import Derived.Test.YtgehepiphdphjaaDoorLexDec
import Derived.Deep.Cut
import Derived.BigQuiet
import Derived.IntWalk
import Derived.Deep.QuietTactic
import Derived.Lib.Bytealg
import Derived.Laws.Strings3
import Derived.Lib.BufferWrite
import Derived.Lib.UnsafeStr
import Derived.Laws.MakeOwn
import Derived.Deep.OwnRows
import Derived.Lib.Split
import Derived.Deep.LoopGhost
import Derived.Lib.Walk
import Derived.WalkSmall
namespace Go.Proofs.YtgehepiphdphjaaDoor
open Go Go.RowKit
set_option linter.unusedVariables false

/-- The place of the first such byte, or -1. -/
theorem idx_miss {c : UInt8} : ∀ {l : List UInt8}, cutAt c l = none → Lib.indexByte l c = -1
  | [], _ => rfl
  | x :: l, h => by
    have hn := cutAt_none.1 h
    simp at hn
    unfold Lib.indexByte
    rw [if_neg (by simpa using Ne.symm hn.1), if_pos (by rw [idx_miss (cutAt_none.2 hn.2)]; rfl)]
theorem idx_hit {c : UInt8} : ∀ {l a b : List UInt8}, cutAt c l = some (a, b) → Lib.indexByte l c = (a.length : Int)
  | [], a, b, h => by cases h
  | x :: l, a, b, h => by
    unfold cutAt at h
    unfold Lib.indexByte
    by_cases e : x = c
    · rw [if_pos e] at h; cases h
      rw [if_pos (by simpa using e)]; rfl
    · rw [if_neg e] at h
      rw [if_neg (by simpa using e)]
      cases hc : cutAt c l with
      | none => rw [hc] at h; cases h
      | some p =>
        obtain ⟨p1, p2⟩ := p
        rw [hc] at h; cases h
        have hi := idx_hit hc
        rw [if_neg (by rw [hi]; simp), hi]; simp
set_option maxHeartbeats 1000000 in
set_option maxRecDepth 100000 in
theorem sidx_any (s : ByteArray) (c : Int) (w : World) :
    Calls Tryd.prog 107 #[.string s, .int .u8 c] w (Pure w (.int .i64 (Lib.indexByte s.data.toList c.toNat.toUInt8))) := by
  go_enter Tryd.func107, Tryd.ntmps107
  go_wp2
  rw [run_callFunc_extern Tryd.func115 (by kernel_rfl) (by kernel_rfl) (by kernel_rfl) (e := Extern.BytealgIndexByte.indexByte) (by kernel_rfl), Lib.run_indexByteString]
  simp only [Result.andThen]
  rw [Oper.upon_value]
  go_wp2
  go_ret
  exact ⟨rfl, rfl⟩
set_option maxHeartbeats 1000000 in
theorem idx_any (s : ByteArray) (c : Int) (w : World) :
    Calls Tryd.prog 114 #[.string s, .int .u8 c] w (Pure w (.int .i64 (Lib.indexByte s.data.toList c.toNat.toUInt8))) := by
  go_enter Tryd.func114, Tryd.ntmps114
  go_wp2_with (refine (sidx_any _ _ _).mono ?_; rintro e w' ⟨rfl, rfl⟩)
  go_ret
  exact ⟨rfl, rfl⟩
set_option maxHeartbeats 2000000 in
set_option maxRecDepth 100000 in
theorem sindex1_any (s : ByteArray) (c : UInt8) (w : World) :
    Calls Tryd.prog 101 #[.string s, .string ⟨#[c]⟩] w (Pure w (.int .i64 (Lib.indexByte s.data.toList c))) := by
  go_enter Tryd.func101, Tryd.ntmps101
  go_wp2_with (refine (sidx_any _ _ _).mono ?_; rintro e w' ⟨rfl, rfl⟩)
  · have h : ([c] == s.toList) = true := by assumption
    go_ret
    refine ⟨?_, rfl⟩
    have e : s.data.toList = [c] := by rw [← Lib.toList_data]; exact (beq_iff_eq.1 h).symm
    rw [e]
    simp [Lib.indexByte]
  · go_ret
    exact ⟨by simp; rfl, rfl⟩
set_option maxHeartbeats 2000000 in
set_option maxRecDepth 100000 in
theorem sindex0_any (s : ByteArray) (w : World) :
    Calls Tryd.prog 101 #[.string s, .string ⟨#[]⟩] w (Pure w (.int .i64 0)) := by
  go_enter Tryd.func101, Tryd.ntmps101
  go_wp2
  go_ret
  exact ⟨rfl, rfl⟩
set_option maxHeartbeats 2000000 in
theorem index1_any (s : ByteArray) (c : UInt8) (w : World) :
    Calls Tryd.prog 93 #[.string s, .string ⟨#[c]⟩] w (Pure w (.int .i64 (Lib.indexByte s.data.toList c))) := by
  go_enter Tryd.func93, Tryd.ntmps93
  go_wp2_with (refine (sindex1_any _ _ _).mono ?_; rintro e w' ⟨rfl, rfl⟩)
  go_ret
  exact ⟨rfl, rfl⟩
set_option maxHeartbeats 2000000 in
theorem scut_miss (s : ByteArray) (c : UInt8) (w : World) (h : cutAt c s.data.toList = none) :
    Calls Tryd.prog 90 #[.string s, .string ⟨#[c]⟩] w (Ans w (.tuple #[.string s, .string ⟨#[]⟩, .bool false])) := by
  have HI := Lib.hid (idx_miss h)
  clear h
  go_enter Tryd.func90, Tryd.ntmps90
  go_wp2_with (refine (sindex1_any _ _ _).mono ?_; rintro e w' ⟨rfl, rfl⟩; rw [HI.out])
  go_ret3
  exact ⟨rfl, Below.refl _ _⟩
set_option maxHeartbeats 2000000 in
theorem scut_hit (s : ByteArray) (c : UInt8) (a b : List UInt8) (w : World) (h : cutAt c s.data.toList = some (a, b)) (hs : s.size ≤ 4294967296) :
    Calls Tryd.prog 90 #[.string s, .string ⟨#[c]⟩] w (Ans w (.tuple #[.string (bs a), .string (bs b), .bool true])) := by
  have HI := Lib.hid (idx_hit h)
  have he := (cutAt_some h).1
  have hl : s.size = a.length + 1 + b.length := by rw [Lib.size_eq, he]; simp; omega
  have HA : Hid (s.extract 0 a.length = bs a) := by unfold Hid; rw [Lib.extract_eq, he]; simp; rfl
  have HB : Hid (s.extract (a.length + 1) s.size = bs b) := by
    unfold Hid; rw [Lib.extract_eq, hl, he]
    rw [show a ++ c :: b = (a ++ [c]) ++ b by simp, show a.length + 1 = (a ++ [c]).length by simp, List.drop_left']
    · simp; rfl
    · rfl
  have c1 : (0 : Int) ≤ ↑a.length := by omega
  have c2 : (↑a.length : Int) ≤ ↑s.size := by omega
  have c3 : (0 : Int) ≤ ↑a.length + 1 := by omega
  have c4 : (↑a.length + 1 : Int) ≤ ↑s.size := by omega
  clear h he hl
  go_enter Tryd.func90, Tryd.ntmps90
  go_wp2_with (refine (sindex1_any _ _ _).mono ?_; rintro e w' ⟨rfl, rfl⟩; rw [HI.out])
  have hw : IntKind.i64.wrap (↑a.length + 1) = ↑a.length + 1 := IntWalk.i64_in _ (by omega)
  have hn : ((a.length : Int) + 1).toNat = a.length + 1 := by omega
  go_quiet (fail)
  go_wp2
  go_ret3
  exact ⟨by rw [HA.out, HB.out]; rfl, below_drewN (Below.refl _ _) _⟩
set_option maxHeartbeats 2000000 in
theorem scut0_any (s : ByteArray) (w : World) (hs : s.size ≤ 4294967296) :
    Calls Tryd.prog 90 #[.string s, .string ⟨#[]⟩] w (Ans w (.tuple #[.string ⟨#[]⟩, .string s, .bool true])) := by
  have HA : Hid (s.extract 0 0 = ⟨#[]⟩) := by unfold Hid; rw [Lib.extract_eq]; rfl
  have HB : Hid (s.extract 0 s.size = s) := by unfold Hid; rw [Lib.extract_eq, Lib.size_eq, List.drop_zero, Nat.sub_zero, List.take_length]
  go_enter Tryd.func90, Tryd.ntmps90
  go_wp2_with (refine (sindex0_any _ _).mono ?_; rintro e w' ⟨rfl, rfl⟩)
  go_quiet (fail)
  go_wp2
  go_ret3
  exact ⟨rfl, below_drewN (Below.refl _ _) _⟩
set_option maxHeartbeats 2000000 in
theorem cut_miss (s : ByteArray) (c : UInt8) (w : World) (h : cutAt c s.data.toList = none) :
    Calls Tryd.prog 70 #[.string s, .string ⟨#[c]⟩] w (Ans w (.tuple #[.string s, .string ⟨#[]⟩, .bool false])) := by
  have HI := Lib.hid h
  clear h
  go_enter Tryd.func70, Tryd.ntmps70
  go_wp2_with (refine (scut_miss _ _ _ HI.out).mono ?_; rintro e w' ⟨rfl, hb⟩; have HB := Lib.hid hb; clear hb)
  go_ret3
  exact ⟨rfl, HB.out⟩
set_option maxHeartbeats 2000000 in
theorem cut_hit (s : ByteArray) (c : UInt8) (a b : List UInt8) (w : World) (h : cutAt c s.data.toList = some (a, b)) (hs : s.size ≤ 4294967296) :
    Calls Tryd.prog 70 #[.string s, .string ⟨#[c]⟩] w (Ans w (.tuple #[.string (bs a), .string (bs b), .bool true])) := by
  have HI := Lib.hid h
  clear h
  go_enter Tryd.func70, Tryd.ntmps70
  go_wp2_with (refine (scut_hit _ _ _ _ _ HI.out hs).mono ?_; rintro e w' ⟨rfl, hb⟩; have HB := Lib.hid hb; clear hb)
  go_ret3
  exact ⟨rfl, HB.out⟩
set_option maxHeartbeats 2000000 in
theorem cut0_any (s : ByteArray) (w : World) (hs : s.size ≤ 4294967296) :
    Calls Tryd.prog 70 #[.string s, .string ⟨#[]⟩] w (Ans w (.tuple #[.string ⟨#[]⟩, .string s, .bool true])) := by
  go_enter Tryd.func70, Tryd.ntmps70
  go_wp2_with (refine (scut0_any _ _ hs).mono ?_; rintro e w' ⟨rfl, hb⟩; have HB := Lib.hid hb; clear hb)
  go_ret3
  exact ⟨rfl, HB.out⟩
/-! ### CutPrefix -/
set_option maxHeartbeats 2000000 in
theorem sprefix_any (s : ByteArray) (c : UInt8) (w : World) :
    Calls Tryd.prog 104 #[.string s, .string ⟨#[c]⟩] w (Pure w (.bool (s.data.toList.head? == some c))) := by
  obtain ⟨l, rfl⟩ : ∃ l, s = bs l := ⟨_, (bs_self s).symm⟩
  match l with
  | [] =>
    go_enter Tryd.func104, Tryd.ntmps104
    go_wp2
    go_ret
    exact ⟨rfl, rfl⟩
  | a :: l =>
    have h1 : 1 ≤ (bs (a :: l)).size := by rw [bs_size]; simp
    have HX : Hid (((bs (a :: l)).extract 0 1).toList = [a]) := by unfold Hid; rw [bs_extract, Lib.toList_data]; rfl
    have HY : Hid ((⟨#[c]⟩ : ByteArray).toList = [c]) := by unfold Hid; rw [Lib.toList_data]
    have HR : Hid (((bs (a :: l)).data.toList.head? == some c) = decide ([a] = [c])) := by unfold Hid; simp [bs_data]; rfl
    generalize bs (a :: l) = s at *
    go_enter Tryd.func104, Tryd.ntmps104
    go_wp2
    go_ret
    exact ⟨by rw [HX.out, HR.out]; simp; rfl, rfl⟩
set_option maxHeartbeats 2000000 in
theorem scutp_miss (s : ByteArray) (c : UInt8) (w : World) (h : s.data.toList.head? ≠ some c) :
    Calls Tryd.prog 96 #[.string s, .string ⟨#[c]⟩] w (Pure w (.tuple #[.string s, .bool false])) := by
  have HI : Hid ((s.data.toList.head? == some c) = false) := by unfold Hid; simpa using h
  clear h
  go_enter Tryd.func96, Tryd.ntmps96
  go_wp2_with (refine (sprefix_any _ _ _).mono ?_; rintro e w' ⟨rfl, rfl⟩; rw [HI.out])
  go_ret2
  exact ⟨rfl, rfl⟩
set_option maxHeartbeats 2000000 in
theorem scutp_hit (c : UInt8) (l : List UInt8) (w : World) :
    Calls Tryd.prog 96 #[.string (bs (c :: l)), .string ⟨#[c]⟩] w (Pure w (.tuple #[.string (bs l), .bool true])) := by
  have HI : Hid (((bs (c :: l)).data.toList.head? == some c) = true) := by unfold Hid; simp [bs_data]
  have h1 : (1 : Int) ≤ (bs (c :: l)).size := by rw [bs_size, List.length_cons]; omega
  have HX : Hid ((bs (c :: l)).extract 1 (bs (c :: l)).size = bs l) := by unfold Hid; rw [bs_extract, bs_size]; simp
  generalize bs (c :: l) = s at *
  go_enter Tryd.func96, Tryd.ntmps96
  go_wp2_with (refine (sprefix_any _ _ _).mono ?_; rintro e w' ⟨rfl, rfl⟩; rw [HI.out])
  go_ret2
  exact ⟨by rw [HX.out]; rfl, rfl⟩
set_option maxHeartbeats 2000000 in
theorem cutp_miss (s : ByteArray) (c : UInt8) (w : World) (h : s.data.toList.head? ≠ some c) :
    Calls Tryd.prog 86 #[.string s, .string ⟨#[c]⟩] w (Pure w (.tuple #[.string s, .bool false])) := by
  have HI := Lib.hid h
  clear h
  go_enter Tryd.func86, Tryd.ntmps86
  go_wp2_with (refine (scutp_miss _ _ _ HI.out).mono ?_; rintro e w' ⟨rfl, rfl⟩)
  go_ret2
  exact ⟨rfl, rfl⟩
set_option maxHeartbeats 2000000 in
theorem cutp_hit (c : UInt8) (l : List UInt8) (w : World) :
    Calls Tryd.prog 86 #[.string (bs (c :: l)), .string ⟨#[c]⟩] w (Pure w (.tuple #[.string (bs l), .bool true])) := by
  go_enter Tryd.func86, Tryd.ntmps86
  go_wp2_with (refine (scutp_hit _ _ _).mono ?_; rintro e w' ⟨rfl, rfl⟩)
  go_ret2
  exact ⟨rfl, rfl⟩
/-! ### Clone -/
set_option maxHeartbeats 4000000 in
set_option maxRecDepth 100000 in
theorem sclone_any (s : ByteArray) (w : World) (hlim : s.size ≤ 281474976710656) :
    Calls Tryd.prog 100 #[.string s] w (Ans w (.string s)) := by
  by_cases h0 : s.size = 0
  · have hs : s = ⟨#[]⟩ := ByteArray.ext (Array.eq_empty_of_size_eq_zero h0)
    subst hs
    go_enter Tryd.func100, Tryd.ntmps100
    go_wp2
    go_ret
    exact ⟨rfl, Below.refl _ _⟩
  · have hu : Tryd.prog.underlying 25 = some (.slice 5) := Tryd.underlying25
    have hup : Tryd.prog.underlying 145 = some (.pointer 5) := Tryd.underlying145
    have hinf : (Tryd.prog.info? 5).map (fun i => (i.zero, i.size, i.bytes)) = some (some (.int .u8 0), 1, 1) := by kernel_rfl
    have hinfo : (Tryd.prog.info? 5).map (·.size) = some 1 := by kernel_rfl
    have hco : Tryd.prog.cellsOf 5 = 1 := by kernel_rfl
    obtain ⟨M, hM⟩ : ∃ M, M = madeCells #[Value.int .u8 0] s.size := ⟨_, rfl⟩
    have hMs : M.size = s.size := by rw [hM]; simp [madeCells]
    have hmk : ∀ W : World, (Instr.makeSlice 25 (.int .i64 (s.size : Int)) (.int .i64 (s.size : Int))).run Tryd.prog W = .ok (.slice (some ⟨W.heap.size, 0, none⟩) s.size s.size) (W.alloc (.cells M 5)) := fun W => by
      rw [hM]
      exact run_make_row' _ _ _ 1 hu hinf rfl .i64 .i64 s.size (by omega) (by omega) W
    clear hM
    have hcp := Lib.run_copy_row_string (P := Tryd.prog) (w.alloc (.cells M 5)) 25 9 3 5 w.heap.size 0 s.size s.size s M 5 hu hinfo (heap_alloc_new w _) (Nat.le_refl _) (by omega)
    obtain ⟨Y, hY⟩ : ∃ Y, Y = (M.toList.take 0 ++ Lib.byteCells s.data.toList ++ M.toList.drop (0 + s.size)).toArray := ⟨_, rfl⟩
    rw [← hY] at hcp
    have hYl : Y.toList = Lib.byteCells s.data.toList := by
      rw [hY, List.toList_toArray, List.take_zero, List.nil_append, List.drop_of_length_le (by rw [Array.length_toList]; omega), List.append_nil]
    have hYs : Y.size = s.size := by rw [← Array.length_toList, hYl, Lib.byteCells_length, ← Lib.size_eq]
    have hgY : ((w.alloc (.cells M 5)).setRow w.heap.size Y).heap[w.heap.size]? = some (.cells Y 5 (0, 0)) := setRow_heap _ _ M _ 5 (0, 0) (heap_alloc_new w _)
    have hne : s.data.toList ≠ [] := fun e => h0 (by rw [Lib.size_eq, e]; rfl)
    have hUS := Lib.run_unsafeString_row (P := Tryd.prog) ((w.alloc (.cells M 5)).setRow w.heap.size Y) 145 3 9 5 hup hco w.heap.size Y.size (by unfold World.shape?; rw [hgY]) s.data.toList hne (by rw [← Lib.size_eq]; omega) (by rw [← Lib.size_eq]; omega)
      (fun j x hx => Lib.cells_of_row hgY Y.size j _ (by rw [List.take_of_length_le (by rw [Array.length_toList]; exact Nat.le_refl _), hYl]; simp [Lib.byteCells, hx]))
    rw [← Lib.size_eq] at hUS
    clear hY
    go_enter Tryd.func100, Tryd.ntmps100
    go_wp2
    go_ret
    have hb1 : Below w.heap.size w (w.alloc (.cells M 5)) := (Below.refl _ w).alloc (Nat.le_refl _) _
    have hb2 : Below w.heap.size (w.alloc (.cells M 5)) ((w.alloc (.cells M 5)).setRow w.heap.size Y) := ⟨rfl, rfl, rfl, by simp, fun k hk => setRow_other _ _ _ _ (by omega)⟩
    exact ⟨rfl, Lib.below_freeze (hb1.trans hb2) (p := ⟨w.heap.size, 0, none⟩) (Nat.le_refl _) _⟩
set_option maxHeartbeats 2000000 in
theorem clone_any (s : ByteArray) (w : World) (hlim : s.size ≤ 281474976710656) :
    Calls Tryd.prog 88 #[.string s] w (Ans w (.string s)) := by
  go_enter Tryd.func88, Tryd.ntmps88
  go_wp2_with (refine (sclone_any _ _ hlim).mono ?_; rintro e w' ⟨rfl, hb⟩; have HB := Lib.hid hb; clear hb)
  go_ret
  exact ⟨rfl, HB.out⟩
set_option maxHeartbeats 2000000 in
set_option maxRecDepth 100000 in
theorem count1_any (s : ByteArray) (c : UInt8) (w : World) :
    Calls Tryd.prog 113 #[.string s, .string ⟨#[c]⟩] w (Pure w (.int .i64 (Lib.countByte s.data.toList c))) := by
  go_enter Tryd.func113, Tryd.ntmps113
  go_wp2
  rw [run_callFunc_extern Tryd.func119 (by kernel_rfl) (by kernel_rfl) (by kernel_rfl) (e := Extern.BytealgCount.count) (by kernel_rfl), Lib.run_countString]
  simp only [Result.andThen]
  rw [Oper.upon_value]
  go_wp2
  go_ret
  exact ⟨by simp; rfl, rfl⟩
/-! ### Split -/
theorem pieces_hit {c : UInt8} : ∀ {l a b : List UInt8}, cutAt c l = some (a, b) → pieces c l = a :: pieces c b
  | [], a, b, h => by cases h
  | x :: l, a, b, h => by
    unfold cutAt at h
    by_cases e : x = c
    · rw [if_pos e] at h; cases h
      unfold pieces; rw [piecesA]; rw [if_pos e]
    · rw [if_neg e] at h
      cases hc : cutAt c l with
      | none => rw [hc] at h; cases h
      | some p =>
        obtain ⟨p1, p2⟩ := p
        rw [hc] at h; cases h
        have hi := pieces_hit hc
        unfold pieces at hi ⊢
        rw [piecesA, if_neg e]
        simp only [List.cons.injEq] at hi ⊢
        exact ⟨⟨trivial, hi.1⟩, hi.2⟩
theorem pieces_miss {c : UInt8} : ∀ {l : List UInt8}, cutAt c l = none → pieces c l = [l]
  | [], h => rfl
  | x :: l, h => by
    have hn := cutAt_none.1 h
    simp at hn
    have hi := pieces_miss (cutAt_none.2 hn.2)
    unfold pieces at hi ⊢
    rw [piecesA, if_neg (Ne.symm hn.1)]
    simp only [List.cons.injEq] at hi ⊢
    exact ⟨⟨trivial, hi.1⟩, hi.2⟩
theorem pieces_count (c : UInt8) : ∀ l : List UInt8, (pieces c l).length = Lib.countByte l c + 1
  | [] => rfl
  | x :: l => by
    have hi := pieces_count c l
    unfold pieces Lib.countByte at *
    rw [piecesA, List.count_cons]
    simp only [List.length_cons] at hi
    by_cases e : x = c
    · rw [if_pos e]; simp [e]; omega
    · rw [if_neg e]; simp [e]; omega
theorem count_le (c : UInt8) (l : List UInt8) : Lib.countByte l c ≤ l.length := List.count_le_length
/-- The pieces of the rest, behind those that are done. -/
def SplR (c : UInt8) (l : List UInt8) (wB : World) (b : Nat) (s0 s10 : Value) (w : World) (g : Nat) : Prop :=
  ∃ (done : List (List UInt8)) (rest : List UInt8), s0 = .string (bs rest) ∧ s10 = .int .i64 (done.length : Int) ∧ g + done.length + 1 = (pieces c l).length ∧ rest.length ≤ l.length ∧ done ++ pieces c rest = pieces c l
    ∧ Blk w b (Lib.cellsOf (done.map bs) (pieces c l).length) 9 ∧ Below wB.heap.size wB w
set_option maxHeartbeats 4000000 in
set_option maxRecDepth 1000000 in
theorem gensplit_any (l : List UInt8) (c : UInt8) (w : World) (hs : l.length ≤ 1073741824) :
    Calls Tryd.prog 105 #[.string (bs l), .string ⟨#[c]⟩, .int .i64 0, .int .i64 (-1)] w
      (fun e w' => e = .returned (.slice (some ⟨w.heap.size, 0, none⟩) (pieces c l).length (pieces c l).length) ∧ Blk w' w.heap.size (((pieces c l).map fun p => Value.string (bs p)).toArray) 9 ∧ Below w.heap.size w w') := by
  have hu : Tryd.prog.underlying 141 = some (.slice 9) := Tryd.underlying141
  have hinf : (Tryd.prog.info? 9).map (fun i => (i.zero, i.size, i.bytes)) = some (some (.string ByteArray.empty), 1, 16) := by kernel_rfl
  have hpl := pieces_count c l
  have hcl := count_le c l
  obtain ⟨N, hN⟩ : ∃ N, (pieces c l).length = N := ⟨_, rfl⟩
  have hN1 : 1 ≤ N := by omega
  have hNl : N ≤ 1073741825 := by omega
  have hcount : ((Lib.countByte l c : Nat) : Int) + 1 = (N : Int) := by omega
  have hmin : min (N : Int) (((bs l).size : Int) + 1) = (N : Int) := by rw [bs_size]; omega
  have hmk := fun W => run_make_row' (P := Tryd.prog) 141 9 (.string ByteArray.empty) 16 hu hinf rfl .i64 .i64 N (by omega) (by omega) W
  have hseb : ((⟨#[c]⟩ : ByteArray).toList).isEmpty = false := by rw [Lib.toList_data]; rfl
  have hc0 : (0 : Int) ≤ (Lib.countByte l c : Int) := by omega
  have hc1 : (Lib.countByte l c : Int) ≤ 1073741824 := by omega
  have hsz : ((bs l).size : Int) ≤ 1073741824 := by rw [bs_size]; omega
  go_enter Tryd.func105, Tryd.ntmps105
  go_wp2_with (first | (go_at_call 113; refine (count1_any _ _ _).mono ?_; rintro e w' ⟨rfl, rfl⟩; rw [bs_data]))
  have HN := Lib.hid hN
  have HM := Lib.hid hmk
  clear hmk hN hpl hcl hcount hmin hu hinf
  have hN63 : N ≤ 9223372036854775807 := by omega
  go_loopg [0, 10] (N - 1) (fun g s0 s10 wr => SplR c l w w.heap.size s0 s10 wr g)
  case atStart =>
    refine ⟨[], l, rfl, rfl, by rw [HN.out]; simp; omega, Nat.le_refl _, rfl, ?_, (Below.refl _ _).alloc (Nat.le_refl _) _⟩
    rw [HN.out, List.map_nil, Lib.cellsOf_nil]
    exact Blk.new _ _ _
  case round =>
    obtain ⟨done, rest, rfl, rfl, hg, hrl, hsp, hb, hbel⟩ := hrel
    rw [HN.out] at hg hb
    have HS := Lib.hid hsp
    have HBK := Lib.hid hb
    have HBL := Lib.hid hbel
    have hcell := hb.cell done.length
    have hfro := hb.frozen done.length
    have hnx := Lib.cellsOf_next (done := done.map bs) (N := N) (by simp; omega)
    rw [List.length_map] at hnx
    rw [hnx] at hcell
    have hpr : (pieces c rest).length = gk + 1 := by
      have h1 := congrArg List.length hsp
      rw [List.length_append, HN.out] at h1; omega
    have hset : ∀ p : List UInt8, (Lib.cellsOf (done.map bs) N).setIfInBounds done.length (.string (bs p)) = Lib.cellsOf ((done ++ [p]).map bs) N := fun p => by
      have := Lib.cellsOf_set (done := done.map bs) (N := N) (by simp; omega) (bs p)
      rw [List.length_map] at this; rw [this]; simp
    have HST := Lib.hid hset
    clear hsp hb hbel hnx hset
    have hlt2 : done.length < N := by omega
    have hlt3 : (done.length : Int) < (N : Int) := by omega
    cases hc : cutAt c rest with
    | none =>
      rw [pieces_miss hc] at hpr
      obtain rfl : gk = 0 := by simp at hpr; omega
      have hltz : ¬ ((done.length : Int) < (N : Int) - 1) := by omega
      have HP := Lib.hid (pieces_miss hc)
      have HNE : Hid (N = done.length + 1) := by unfold Hid; omega
      have hle1 : (done.length : Int) + 1 ≤ (N : Int) := by omega
      clear hc hpr
      go_wp2
      go_ret
      refine ⟨?_, ?_, ?_⟩
      · rw [HN.out]
        have e := HNE.out
        show Ending.returned (.slice (some ⟨w.heap.size, 0, none⟩) (done.length + 1) N) = _
        rw [← e]
      · have h1 := HBK.out.setCell done.length (.string (bs rest))
        rw [HST.out] at h1
        have e2 : done ++ [rest] = pieces c l := by rw [← HS.out, HP.out]
        rw [e2] at h1
        have e3 : Lib.cellsOf ((pieces c l).map bs) N = ((pieces c l).map fun p => Value.string (bs p)).toArray := by
          unfold Lib.cellsOf
          rw [List.length_map, HN.out, Nat.sub_self]; simp
        rw [e3] at h1
        exact h1
      · exact HBL.out.setCell (p := ⟨w.heap.size, done.length, none⟩) (Nat.le_refl _) _
    | some p =>
      obtain ⟨a, b⟩ := p
      have hpc := pieces_hit hc
      rw [hpc] at hpr
      have hg1 : 1 ≤ gk := by have := pieces_count c b; simp at hpr; omega
      have hltz : (done.length : Int) < (N : Int) - 1 := by omega
      have HP := Lib.hid hpc
      have HI : Hid (Lib.indexByte (bs rest).data.toList c = (a.length : Int)) := by unfold Hid; rw [bs_data]; exact idx_hit hc
      have he := (cutAt_some hc).1
      have hrl2 : rest.length = a.length + 1 + b.length := by rw [he]; simp; omega
      have HA : Hid ((bs rest).extract 0 a.length = bs a) := by unfold Hid; rw [bs_extract, he]; simp
      have HB : Hid ((bs rest).extract (a.length + 1) (bs rest).size = bs b) := by
        unfold Hid; rw [bs_extract, bs_size, hrl2, he]
        rw [show a ++ c :: b = (a ++ [c]) ++ b by simp, show a.length + 1 = (a ++ [c]).length by simp, List.drop_left']
        · simp
        · rfl
      have c1 : (0 : Int) ≤ ↑a.length := by omega
      have c2 : (↑a.length : Int) ≤ ↑(bs rest).size := by rw [bs_size]; omega
      have c3 : (0 : Int) ≤ ↑a.length + 1 := by omega
      have c4 : (↑a.length + 1 : Int) ≤ ↑(bs rest).size := by rw [bs_size]; omega
      have c5 : ¬ ((a.length : Int) < 0) := by omega
      have c6 : (a.length : Int) ≤ 1073741824 := by omega
      have hbl : b.length ≤ l.length := by omega
      clear hc hpc hpr he hrl2
      go_wp2_with (first | (go_at_call 93; refine (index1_any _ _ _).mono ?_; rintro e w' ⟨rfl, rfl⟩; rw [HI.out]))
      go_roundg (gk - 1)
      case measure => omega
      case rel =>
        refine ⟨done ++ [a], b, ?_, by simp, by rw [HN.out]; simp; omega, hbl, by rw [← HS.out, HP.out]; simp, ?_, HBL.out.setCell (p := ⟨w.heap.size, done.length, none⟩) (Nat.le_refl _) _⟩
        · rw [← HB.out]
        · have h1 := HBK.out.setCell done.length (.string (bs a))
          rw [HST.out, ← HA.out] at h1
          rw [HN.out]
          exact h1
set_option maxHeartbeats 2000000 in
theorem split_any (l : List UInt8) (c : UInt8) (w : World) (hs : l.length ≤ 1073741824) :
    Calls Tryd.prog 97 #[.string (bs l), .string ⟨#[c]⟩] w
      (fun e w' => e = .returned (.slice (some ⟨w.heap.size, 0, none⟩) (pieces c l).length (pieces c l).length) ∧ Blk w' w.heap.size (((pieces c l).map fun p => Value.string (bs p)).toArray) 9 ∧ Below w.heap.size w w') := by
  go_enter Tryd.func97, Tryd.ntmps97
  go_wp2_with (refine (gensplit_any l c _ hs).mono ?_; rintro e w' ⟨rfl, hb⟩; have HB := Lib.hid hb; clear hb)
  go_ret
  exact ⟨rfl, HB.out⟩
end Go.Proofs.YtgehepiphdphjaaDoor
