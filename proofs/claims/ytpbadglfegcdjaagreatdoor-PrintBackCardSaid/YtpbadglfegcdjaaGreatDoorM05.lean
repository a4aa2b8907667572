/- The library's calls on strings, at a byte: walked. -/
import Derived.Test.YtpbadglfegcdjaaGreatDoorM02
import Derived.Test.YtpbadglfegcdjaaGreatDoorM04
import Derived.Deep.Cut
import Derived.BigQuiet
import Derived.IntWalk
import Derived.Deep.QuietTactic
import Derived.Lib.Bytealg
import Derived.Laws.Strings3
import Derived.Lib.BufferWrite
import Derived.Lib.UnsafeStr
import Derived.Laws.MakeOwn
import Derived.Deep.OwnRows
import Derived.Lib.Split
import Derived.Deep.LoopGhost
import Derived.Lib.Walk
import Derived.WalkSmall
import Derived.Lib.ValidU
import Derived.Lib.TrimUEq
import Derived.Shelf.Unicode.ValidAny
namespace Go.Proofs.YtpbadglfegcdjaaGreatDoor
open Go Go.RowKit
set_option linter.unusedVariables false

/-- The place of the first such byte, or -1. -/
theorem idx_miss {c : UInt8} : ∀ {l : List UInt8}, cutAt c l = none → Lib.indexByte l c = -1
  | [], _ => rfl
  | x :: l, h => by
    have hn := cutAt_none.1 h
    simp at hn
    unfold Lib.indexByte
    rw [if_neg (by simpa using Ne.symm hn.1), if_pos (by rw [idx_miss (cutAt_none.2 hn.2)]; rfl)]
theorem idx_hit {c : UInt8} : ∀ {l a b : List UInt8}, cutAt c l = some (a, b) → Lib.indexByte l c = (a.length : Int)
  | [], a, b, h => by cases h
  | x :: l, a, b, h => by
    unfold cutAt at h
    unfold Lib.indexByte
    by_cases e : x = c
    · rw [if_pos e] at h; cases h
      rw [if_pos (by simpa using e)]; rfl
    · rw [if_neg e] at h
      rw [if_neg (by simpa using e)]
      cases hc : cutAt c l with
      | none => rw [hc] at h; cases h
      | some p =>
        obtain ⟨p1, p2⟩ := p
        rw [hc] at h; cases h
        have hi := idx_hit hc
        rw [if_neg (by rw [hi]; simp), hi]; simp
set_option maxHeartbeats 1000000 in
set_option maxRecDepth 100000 in
theorem sidx_any (s : ByteArray) (c : Int) (w : World) :
    Calls Tryz.prog 96 #[.string s, .int .u8 c] w (Pure w (.int .i64 (Lib.indexByte s.data.toList c.toNat.toUInt8))) := by
  go_enter Tryz.func96, Tryz.ntmps96
  go_wp2
  rw [run_callFunc_extern Tryz.func106 (by kernel_rfl) (by kernel_rfl) (by kernel_rfl) (e := Extern.BytealgIndexByte.indexByte) (by kernel_rfl), Lib.run_indexByteString]
  simp only [Result.andThen]
  rw [Oper.upon_value]
  go_wp2
  go_ret
  exact ⟨rfl, rfl⟩
set_option maxHeartbeats 1000000 in
theorem idx_any (s : ByteArray) (c : Int) (w : World) :
    Calls Tryz.prog 105 #[.string s, .int .u8 c] w (Pure w (.int .i64 (Lib.indexByte s.data.toList c.toNat.toUInt8))) := by
  go_enter Tryz.func105, Tryz.ntmps105
  go_wp2_with (refine (sidx_any _ _ _).mono ?_; rintro e w' ⟨rfl, rfl⟩)
  go_ret
  exact ⟨rfl, rfl⟩
set_option maxHeartbeats 2000000 in
set_option maxRecDepth 100000 in
theorem sindex1_any (s : ByteArray) (c : UInt8) (w : World) :
    Calls Tryz.prog 85 #[.string s, .string ⟨#[c]⟩] w (Pure w (.int .i64 (Lib.indexByte s.data.toList c))) := by
  go_enter Tryz.func85, Tryz.ntmps85
  go_wp2_with (refine (sidx_any _ _ _).mono ?_; rintro e w' ⟨rfl, rfl⟩)
  · have h : ([c] == s.toList) = true := by assumption
    go_ret
    refine ⟨?_, rfl⟩
    have e : s.data.toList = [c] := by rw [← Lib.toList_data]; exact (beq_iff_eq.1 h).symm
    rw [e]
    simp [Lib.indexByte]
  · go_ret
    exact ⟨by simp; rfl, rfl⟩
set_option maxHeartbeats 2000000 in
set_option maxRecDepth 100000 in
theorem sindex0_any (s : ByteArray) (w : World) :
    Calls Tryz.prog 85 #[.string s, .string ⟨#[]⟩] w (Pure w (.int .i64 0)) := by
  go_enter Tryz.func85, Tryz.ntmps85
  go_wp2
  go_ret
  exact ⟨rfl, rfl⟩
set_option maxHeartbeats 2000000 in
theorem index1_any (s : ByteArray) (c : UInt8) (w : World) :
    Calls Tryz.prog 104 #[.string s, .string ⟨#[c]⟩] w (Pure w (.int .i64 (Lib.indexByte s.data.toList c))) := by
  go_enter Tryz.func104, Tryz.ntmps104
  go_wp2_with (refine (sindex1_any _ _ _).mono ?_; rintro e w' ⟨rfl, rfl⟩)
  go_ret
  exact ⟨rfl, rfl⟩
set_option maxHeartbeats 2000000 in
theorem scut_miss (s : ByteArray) (c : UInt8) (w : World) (h : cutAt c s.data.toList = none) :
    Calls Tryz.prog 60 #[.string s, .string ⟨#[c]⟩] w (Ans w (.tuple #[.string s, .string ⟨#[]⟩, .bool false])) := by
  have HI := Lib.hid (idx_miss h)
  clear h
  go_enter Tryz.func60, Tryz.ntmps60
  go_wp2_with (refine (sindex1_any _ _ _).mono ?_; rintro e w' ⟨rfl, rfl⟩; rw [HI.out])
  go_ret3
  exact ⟨rfl, Below.refl _ _⟩
set_option maxHeartbeats 2000000 in
theorem scut_hit (s : ByteArray) (c : UInt8) (a b : List UInt8) (w : World) (h : cutAt c s.data.toList = some (a, b)) (hs : s.size ≤ 4294967296) :
    Calls Tryz.prog 60 #[.string s, .string ⟨#[c]⟩] w (Ans w (.tuple #[.string (bs a), .string (bs b), .bool true])) := by
  have HI := Lib.hid (idx_hit h)
  have he := (cutAt_some h).1
  have hl : s.size = a.length + 1 + b.length := by rw [Lib.size_eq, he]; simp; omega
  have HA : Hid (s.extract 0 a.length = bs a) := by unfold Hid; rw [Lib.extract_eq, he]; simp; rfl
  have HB : Hid (s.extract (a.length + 1) s.size = bs b) := by
    unfold Hid; rw [Lib.extract_eq, hl, he]
    rw [show a ++ c :: b = (a ++ [c]) ++ b by simp, show a.length + 1 = (a ++ [c]).length by simp, List.drop_left']
    · simp; rfl
    · rfl
  have c1 : (0 : Int) ≤ ↑a.length := by omega
  have c2 : (↑a.length : Int) ≤ ↑s.size := by omega
  have c3 : (0 : Int) ≤ ↑a.length + 1 := by omega
  have c4 : (↑a.length + 1 : Int) ≤ ↑s.size := by omega
  clear h he hl
  go_enter Tryz.func60, Tryz.ntmps60
  go_wp2_with (refine (sindex1_any _ _ _).mono ?_; rintro e w' ⟨rfl, rfl⟩; rw [HI.out])
  have hw : IntKind.i64.wrap (↑a.length + 1) = ↑a.length + 1 := IntWalk.i64_in _ (by omega)
  have hn : ((a.length : Int) + 1).toNat = a.length + 1 := by omega
  go_quiet (fail)
  go_wp2
  go_ret3
  exact ⟨by rw [HA.out, HB.out]; rfl, below_drewN (Below.refl _ _) _⟩
set_option maxHeartbeats 2000000 in
theorem scut0_any (s : ByteArray) (w : World) (hs : s.size ≤ 4294967296) :
    Calls Tryz.prog 60 #[.string s, .string ⟨#[]⟩] w (Ans w (.tuple #[.string ⟨#[]⟩, .string s, .bool true])) := by
  have HA : Hid (s.extract 0 0 = ⟨#[]⟩) := by unfold Hid; rw [Lib.extract_eq]; rfl
  have HB : Hid (s.extract 0 s.size = s) := by unfold Hid; rw [Lib.extract_eq, Lib.size_eq, List.drop_zero, Nat.sub_zero, List.take_length]
  go_enter Tryz.func60, Tryz.ntmps60
  go_wp2_with (refine (sindex0_any _ _).mono ?_; rintro e w' ⟨rfl, rfl⟩)
  go_quiet (fail)
  go_wp2
  go_ret3
  exact ⟨rfl, below_drewN (Below.refl _ _) _⟩
set_option maxHeartbeats 2000000 in
theorem cut_miss (s : ByteArray) (c : UInt8) (w : World) (h : cutAt c s.data.toList = none) :
    Calls Tryz.prog 39 #[.string s, .string ⟨#[c]⟩] w (Ans w (.tuple #[.string s, .string ⟨#[]⟩, .bool false])) := by
  have HI := Lib.hid h
  clear h
  go_enter Tryz.func39, Tryz.ntmps39
  go_wp2_with (refine (scut_miss _ _ _ HI.out).mono ?_; rintro e w' ⟨rfl, hb⟩; have HB := Lib.hid hb; clear hb)
  go_ret3
  exact ⟨rfl, HB.out⟩
set_option maxHeartbeats 2000000 in
theorem cut_hit (s : ByteArray) (c : UInt8) (a b : List UInt8) (w : World) (h : cutAt c s.data.toList = some (a, b)) (hs : s.size ≤ 4294967296) :
    Calls Tryz.prog 39 #[.string s, .string ⟨#[c]⟩] w (Ans w (.tuple #[.string (bs a), .string (bs b), .bool true])) := by
  have HI := Lib.hid h
  clear h
  go_enter Tryz.func39, Tryz.ntmps39
  go_wp2_with (refine (scut_hit _ _ _ _ _ HI.out hs).mono ?_; rintro e w' ⟨rfl, hb⟩; have HB := Lib.hid hb; clear hb)
  go_ret3
  exact ⟨rfl, HB.out⟩
set_option maxHeartbeats 2000000 in
theorem cut0_any (s : ByteArray) (w : World) (hs : s.size ≤ 4294967296) :
    Calls Tryz.prog 39 #[.string s, .string ⟨#[]⟩] w (Ans w (.tuple #[.string ⟨#[]⟩, .string s, .bool true])) := by
  go_enter Tryz.func39, Tryz.ntmps39
  go_wp2_with (refine (scut0_any _ _ hs).mono ?_; rintro e w' ⟨rfl, hb⟩; have HB := Lib.hid hb; clear hb)
  go_ret3
  exact ⟨rfl, HB.out⟩
/-! ### CutPrefix -/
set_option maxHeartbeats 2000000 in
theorem sprefix_any (s : ByteArray) (c : UInt8) (w : World) :
    Calls Tryz.prog 92 #[.string s, .string ⟨#[c]⟩] w (Pure w (.bool (s.data.toList.head? == some c))) := by
  obtain ⟨l, rfl⟩ : ∃ l, s = bs l := ⟨_, (bs_self s).symm⟩
  match l with
  | [] =>
    go_enter Tryz.func92, Tryz.ntmps92
    go_wp2
    go_ret
    exact ⟨rfl, rfl⟩
  | a :: l =>
    have h1 : 1 ≤ (bs (a :: l)).size := by rw [bs_size]; simp
    have HX : Hid (((bs (a :: l)).extract 0 1).toList = [a]) := by unfold Hid; rw [bs_extract, Lib.toList_data]; rfl
    have HY : Hid ((⟨#[c]⟩ : ByteArray).toList = [c]) := by unfold Hid; rw [Lib.toList_data]
    have HR : Hid (((bs (a :: l)).data.toList.head? == some c) = decide ([a] = [c])) := by unfold Hid; simp [bs_data]; rfl
    generalize bs (a :: l) = s at *
    go_enter Tryz.func92, Tryz.ntmps92
    go_wp2
    go_ret
    exact ⟨by rw [HX.out, HR.out]; simp; rfl, rfl⟩
set_option maxHeartbeats 2000000 in
theorem scutp_miss (s : ByteArray) (c : UInt8) (w : World) (h : s.data.toList.head? ≠ some c) :
    Calls Tryz.prog 79 #[.string s, .string ⟨#[c]⟩] w (Pure w (.tuple #[.string s, .bool false])) := by
  have HI : Hid ((s.data.toList.head? == some c) = false) := by unfold Hid; simpa using h
  clear h
  go_enter Tryz.func79, Tryz.ntmps79
  go_wp2_with (refine (sprefix_any _ _ _).mono ?_; rintro e w' ⟨rfl, rfl⟩; rw [HI.out])
  go_ret2
  exact ⟨rfl, rfl⟩
set_option maxHeartbeats 2000000 in
theorem scutp_hit (c : UInt8) (l : List UInt8) (w : World) :
    Calls Tryz.prog 79 #[.string (bs (c :: l)), .string ⟨#[c]⟩] w (Pure w (.tuple #[.string (bs l), .bool true])) := by
  have HI : Hid (((bs (c :: l)).data.toList.head? == some c) = true) := by unfold Hid; simp [bs_data]
  have h1 : (1 : Int) ≤ (bs (c :: l)).size := by rw [bs_size, List.length_cons]; omega
  have HX : Hid ((bs (c :: l)).extract 1 (bs (c :: l)).size = bs l) := by unfold Hid; rw [bs_extract, bs_size]; simp
  generalize bs (c :: l) = s at *
  go_enter Tryz.func79, Tryz.ntmps79
  go_wp2_with (refine (sprefix_any _ _ _).mono ?_; rintro e w' ⟨rfl, rfl⟩; rw [HI.out])
  go_ret2
  exact ⟨by rw [HX.out]; rfl, rfl⟩
set_option maxHeartbeats 2000000 in
theorem cutp_miss (s : ByteArray) (c : UInt8) (w : World) (h : s.data.toList.head? ≠ some c) :
    Calls Tryz.prog 54 #[.string s, .string ⟨#[c]⟩] w (Pure w (.tuple #[.string s, .bool false])) := by
  have HI := Lib.hid h
  clear h
  go_enter Tryz.func54, Tryz.ntmps54
  go_wp2_with (refine (scutp_miss _ _ _ HI.out).mono ?_; rintro e w' ⟨rfl, rfl⟩)
  go_ret2
  exact ⟨rfl, rfl⟩
set_option maxHeartbeats 2000000 in
theorem cutp_hit (c : UInt8) (l : List UInt8) (w : World) :
    Calls Tryz.prog 54 #[.string (bs (c :: l)), .string ⟨#[c]⟩] w (Pure w (.tuple #[.string (bs l), .bool true])) := by
  go_enter Tryz.func54, Tryz.ntmps54
  go_wp2_with (refine (scutp_hit _ _ _).mono ?_; rintro e w' ⟨rfl, rfl⟩)
  go_ret2
  exact ⟨rfl, rfl⟩
/-! ### Clone -/
set_option maxHeartbeats 4000000 in
set_option maxRecDepth 100000 in
theorem sclone_any (s : ByteArray) (w : World) (hlim : s.size ≤ 281474976710656) :
    Calls Tryz.prog 84 #[.string s] w (Ans w (.string s)) := by
  by_cases h0 : s.size = 0
  · have hs : s = ⟨#[]⟩ := ByteArray.ext (Array.eq_empty_of_size_eq_zero h0)
    subst hs
    go_enter Tryz.func84, Tryz.ntmps84
    go_wp2
    go_ret
    exact ⟨rfl, Below.refl _ _⟩
  · have hu : Tryz.prog.underlying 59 = some (.slice 5) := Tryz.underlying59
    have hup : Tryz.prog.underlying 99 = some (.pointer 5) := Tryz.underlying99
    have hinf : (Tryz.prog.info? 5).map (fun i => (i.zero, i.size, i.bytes)) = some (some (.int .u8 0), 1, 1) := by kernel_rfl
    have hinfo : (Tryz.prog.info? 5).map (·.size) = some 1 := by kernel_rfl
    have hco : Tryz.prog.cellsOf 5 = 1 := by kernel_rfl
    obtain ⟨M, hM⟩ : ∃ M, M = madeCells #[Value.int .u8 0] s.size := ⟨_, rfl⟩
    have hMs : M.size = s.size := by rw [hM]; simp [madeCells]
    have hmk : ∀ W : World, (Instr.makeSlice 59 (.int .i64 (s.size : Int)) (.int .i64 (s.size : Int))).run Tryz.prog W = .ok (.slice (some ⟨W.heap.size, 0, none⟩) s.size s.size) (W.alloc (.cells M 5)) := fun W => by
      rw [hM]
      exact run_make_row' _ _ _ 1 hu hinf rfl .i64 .i64 s.size (by omega) (by omega) W
    clear hM
    have hcp := Lib.run_copy_row_string (P := Tryz.prog) (w.alloc (.cells M 5)) 59 9 3 5 w.heap.size 0 s.size s.size s M 5 hu hinfo (heap_alloc_new w _) (Nat.le_refl _) (by omega)
    obtain ⟨Y, hY⟩ : ∃ Y, Y = (M.toList.take 0 ++ Lib.byteCells s.data.toList ++ M.toList.drop (0 + s.size)).toArray := ⟨_, rfl⟩
    rw [← hY] at hcp
    have hYl : Y.toList = Lib.byteCells s.data.toList := by
      rw [hY, List.toList_toArray, List.take_zero, List.nil_append, List.drop_of_length_le (by rw [Array.length_toList]; omega), List.append_nil]
    have hYs : Y.size = s.size := by rw [← Array.length_toList, hYl, Lib.byteCells_length, ← Lib.size_eq]
    have hgY : ((w.alloc (.cells M 5)).setRow w.heap.size Y).heap[w.heap.size]? = some (.cells Y 5 (0, 0)) := setRow_heap _ _ M _ 5 (0, 0) (heap_alloc_new w _)
    have hne : s.data.toList ≠ [] := fun e => h0 (by rw [Lib.size_eq, e]; rfl)
    have hUS := Lib.run_unsafeString_row (P := Tryz.prog) ((w.alloc (.cells M 5)).setRow w.heap.size Y) 99 3 9 5 hup hco w.heap.size Y.size (by unfold World.shape?; rw [hgY]) s.data.toList hne (by rw [← Lib.size_eq]; omega) (by rw [← Lib.size_eq]; omega)
      (fun j x hx => Lib.cells_of_row hgY Y.size j _ (by rw [List.take_of_length_le (by rw [Array.length_toList]; exact Nat.le_refl _), hYl]; simp [Lib.byteCells, hx]))
    rw [← Lib.size_eq] at hUS
    clear hY
    go_enter Tryz.func84, Tryz.ntmps84
    go_wp2
    go_ret
    have hb1 : Below w.heap.size w (w.alloc (.cells M 5)) := (Below.refl _ w).alloc (Nat.le_refl _) _
    have hb2 : Below w.heap.size (w.alloc (.cells M 5)) ((w.alloc (.cells M 5)).setRow w.heap.size Y) := ⟨rfl, rfl, rfl, by simp, fun k hk => setRow_other _ _ _ _ (by omega)⟩
    exact ⟨rfl, Lib.below_freeze (hb1.trans hb2) (p := ⟨w.heap.size, 0, none⟩) (Nat.le_refl _) _⟩
set_option maxHeartbeats 2000000 in
theorem clone_any (s : ByteArray) (w : World) (hlim : s.size ≤ 281474976710656) :
    Calls Tryz.prog 58 #[.string s] w (Ans w (.string s)) := by
  go_enter Tryz.func58, Tryz.ntmps58
  go_wp2_with (refine (sclone_any _ _ hlim).mono ?_; rintro e w' ⟨rfl, hb⟩; have HB := Lib.hid hb; clear hb)
  go_ret
  exact ⟨rfl, HB.out⟩
set_option maxHeartbeats 2000000 in
set_option maxRecDepth 100000 in
theorem count1_any (s : ByteArray) (c : UInt8) (w : World) :
    Calls Tryz.prog 103 #[.string s, .string ⟨#[c]⟩] w (Pure w (.int .i64 (Lib.countByte s.data.toList c))) := by
  go_enter Tryz.func103, Tryz.ntmps103
  go_wp2
  rw [run_callFunc_extern Tryz.func113 (by kernel_rfl) (by kernel_rfl) (by kernel_rfl) (e := Extern.BytealgCount.count) (by kernel_rfl), Lib.run_countString]
  simp only [Result.andThen]
  rw [Oper.upon_value]
  go_wp2
  go_ret
  exact ⟨by simp; rfl, rfl⟩
/-! ### Split -/
theorem pieces_hit {c : UInt8} : ∀ {l a b : List UInt8}, cutAt c l = some (a, b) → pieces c l = a :: pieces c b
  | [], a, b, h => by cases h
  | x :: l, a, b, h => by
    unfold cutAt at h
    by_cases e : x = c
    · rw [if_pos e] at h; cases h
      unfold pieces; rw [piecesA]; rw [if_pos e]
    · rw [if_neg e] at h
      cases hc : cutAt c l with
      | none => rw [hc] at h; cases h
      | some p =>
        obtain ⟨p1, p2⟩ := p
        rw [hc] at h; cases h
        have hi := pieces_hit hc
        unfold pieces at hi ⊢
        rw [piecesA, if_neg e]
        simp only [List.cons.injEq] at hi ⊢
        exact ⟨⟨trivial, hi.1⟩, hi.2⟩
theorem pieces_miss {c : UInt8} : ∀ {l : List UInt8}, cutAt c l = none → pieces c l = [l]
  | [], h => rfl
  | x :: l, h => by
    have hn := cutAt_none.1 h
    simp at hn
    have hi := pieces_miss (cutAt_none.2 hn.2)
    unfold pieces at hi ⊢
    rw [piecesA, if_neg (Ne.symm hn.1)]
    simp only [List.cons.injEq] at hi ⊢
    exact ⟨⟨trivial, hi.1⟩, hi.2⟩
theorem pieces_count (c : UInt8) : ∀ l : List UInt8, (pieces c l).length = Lib.countByte l c + 1
  | [] => rfl
  | x :: l => by
    have hi := pieces_count c l
    unfold pieces Lib.countByte at *
    rw [piecesA, List.count_cons]
    simp only [List.length_cons] at hi
    by_cases e : x = c
    · rw [if_pos e]; simp [e]; omega
    · rw [if_neg e]; simp [e]; omega
theorem count_le (c : UInt8) (l : List UInt8) : Lib.countByte l c ≤ l.length := List.count_le_length
/-- The pieces of the rest, behind those that are done. -/
def SplR (c : UInt8) (l : List UInt8) (wB : World) (b : Nat) (s0 s10 : Value) (w : World) (g : Nat) : Prop :=
  ∃ (done : List (List UInt8)) (rest : List UInt8), s0 = .string (bs rest) ∧ s10 = .int .i64 (done.length : Int) ∧ g + done.length + 1 = (pieces c l).length ∧ rest.length ≤ l.length ∧ done ++ pieces c rest = pieces c l
    ∧ Blk w b (Lib.cellsOf (done.map bs) (pieces c l).length) 9 ∧ Below wB.heap.size wB w
set_option maxHeartbeats 4000000 in
set_option maxRecDepth 1000000 in
theorem gensplit_any (l : List UInt8) (c : UInt8) (w : World) (hs : l.length ≤ 1073741824) :
    Calls Tryz.prog 93 #[.string (bs l), .string ⟨#[c]⟩, .int .i64 0, .int .i64 (-1)] w
      (fun e w' => e = .returned (.slice (some ⟨w.heap.size, 0, none⟩) (pieces c l).length (pieces c l).length) ∧ Blk w' w.heap.size (((pieces c l).map fun p => Value.string (bs p)).toArray) 9 ∧ Below w.heap.size w w') := by
  have hu : Tryz.prog.underlying 78 = some (.slice 9) := Tryz.underlying78
  have hinf : (Tryz.prog.info? 9).map (fun i => (i.zero, i.size, i.bytes)) = some (some (.string ByteArray.empty), 1, 16) := by kernel_rfl
  have hpl := pieces_count c l
  have hcl := count_le c l
  obtain ⟨N, hN⟩ : ∃ N, (pieces c l).length = N := ⟨_, rfl⟩
  have hN1 : 1 ≤ N := by omega
  have hNl : N ≤ 1073741825 := by omega
  have hcount : ((Lib.countByte l c : Nat) : Int) + 1 = (N : Int) := by omega
  have hmin : min (N : Int) (((bs l).size : Int) + 1) = (N : Int) := by rw [bs_size]; omega
  have hmk := fun W => run_make_row' (P := Tryz.prog) 78 9 (.string ByteArray.empty) 16 hu hinf rfl .i64 .i64 N (by omega) (by omega) W
  have hseb : ((⟨#[c]⟩ : ByteArray).toList).isEmpty = false := by rw [Lib.toList_data]; rfl
  have hc0 : (0 : Int) ≤ (Lib.countByte l c : Int) := by omega
  have hc1 : (Lib.countByte l c : Int) ≤ 1073741824 := by omega
  have hsz : ((bs l).size : Int) ≤ 1073741824 := by rw [bs_size]; omega
  go_enter Tryz.func93, Tryz.ntmps93
  go_wp2_with (first | (go_at_call 103; refine (count1_any _ _ _).mono ?_; rintro e w' ⟨rfl, rfl⟩; rw [bs_data]))
  have HN := Lib.hid hN
  have HM := Lib.hid hmk
  clear hmk hN hpl hcl hcount hmin hu hinf
  have hN63 : N ≤ 9223372036854775807 := by omega
  go_loopg [0, 10] (N - 1) (fun g s0 s10 wr => SplR c l w w.heap.size s0 s10 wr g)
  case atStart =>
    refine ⟨[], l, rfl, rfl, by rw [HN.out]; simp; omega, Nat.le_refl _, rfl, ?_, (Below.refl _ _).alloc (Nat.le_refl _) _⟩
    rw [HN.out, List.map_nil, Lib.cellsOf_nil]
    exact Blk.new _ _ _
  case round =>
    obtain ⟨done, rest, rfl, rfl, hg, hrl, hsp, hb, hbel⟩ := hrel
    rw [HN.out] at hg hb
    have HS := Lib.hid hsp
    have HBK := Lib.hid hb
    have HBL := Lib.hid hbel
    have hcell := hb.cell done.length
    have hfro := hb.frozen done.length
    have hnx := Lib.cellsOf_next (done := done.map bs) (N := N) (by simp; omega)
    rw [List.length_map] at hnx
    rw [hnx] at hcell
    have hpr : (pieces c rest).length = gk + 1 := by
      have h1 := congrArg List.length hsp
      rw [List.length_append, HN.out] at h1; omega
    have hset : ∀ p : List UInt8, (Lib.cellsOf (done.map bs) N).setIfInBounds done.length (.string (bs p)) = Lib.cellsOf ((done ++ [p]).map bs) N := fun p => by
      have := Lib.cellsOf_set (done := done.map bs) (N := N) (by simp; omega) (bs p)
      rw [List.length_map] at this; rw [this]; simp
    have HST := Lib.hid hset
    clear hsp hb hbel hnx hset
    have hlt2 : done.length < N := by omega
    have hlt3 : (done.length : Int) < (N : Int) := by omega
    cases hc : cutAt c rest with
    | none =>
      rw [pieces_miss hc] at hpr
      obtain rfl : gk = 0 := by simp at hpr; omega
      have hltz : ¬ ((done.length : Int) < (N : Int) - 1) := by omega
      have HP := Lib.hid (pieces_miss hc)
      have HNE : Hid (N = done.length + 1) := by unfold Hid; omega
      have hle1 : (done.length : Int) + 1 ≤ (N : Int) := by omega
      clear hc hpr
      go_wp2
      go_ret
      refine ⟨?_, ?_, ?_⟩
      · rw [HN.out]
        have e := HNE.out
        show Ending.returned (.slice (some ⟨w.heap.size, 0, none⟩) (done.length + 1) N) = _
        rw [← e]
      · have h1 := HBK.out.setCell done.length (.string (bs rest))
        rw [HST.out] at h1
        have e2 : done ++ [rest] = pieces c l := by rw [← HS.out, HP.out]
        rw [e2] at h1
        have e3 : Lib.cellsOf ((pieces c l).map bs) N = ((pieces c l).map fun p => Value.string (bs p)).toArray := by
          unfold Lib.cellsOf
          rw [List.length_map, HN.out, Nat.sub_self]; simp
        rw [e3] at h1
        exact h1
      · exact HBL.out.setCell (p := ⟨w.heap.size, done.length, none⟩) (Nat.le_refl _) _
    | some p =>
      obtain ⟨a, b⟩ := p
      have hpc := pieces_hit hc
      rw [hpc] at hpr
      have hg1 : 1 ≤ gk := by have := pieces_count c b; simp at hpr; omega
      have hltz : (done.length : Int) < (N : Int) - 1 := by omega
      have HP := Lib.hid hpc
      have HI : Hid (Lib.indexByte (bs rest).data.toList c = (a.length : Int)) := by unfold Hid; rw [bs_data]; exact idx_hit hc
      have he := (cutAt_some hc).1
      have hrl2 : rest.length = a.length + 1 + b.length := by rw [he]; simp; omega
      have HA : Hid ((bs rest).extract 0 a.length = bs a) := by unfold Hid; rw [bs_extract, he]; simp
      have HB : Hid ((bs rest).extract (a.length + 1) (bs rest).size = bs b) := by
        unfold Hid; rw [bs_extract, bs_size, hrl2, he]
        rw [show a ++ c :: b = (a ++ [c]) ++ b by simp, show a.length + 1 = (a ++ [c]).length by simp, List.drop_left']
        · simp
        · rfl
      have c1 : (0 : Int) ≤ ↑a.length := by omega
      have c2 : (↑a.length : Int) ≤ ↑(bs rest).size := by rw [bs_size]; omega
      have c3 : (0 : Int) ≤ ↑a.length + 1 := by omega
      have c4 : (↑a.length + 1 : Int) ≤ ↑(bs rest).size := by rw [bs_size]; omega
      have c5 : ¬ ((a.length : Int) < 0) := by omega
      have c6 : (a.length : Int) ≤ 1073741824 := by omega
      have hbl : b.length ≤ l.length := by omega
      clear hc hpc hpr he hrl2
      go_wp2_with (first | (go_at_call 104; refine (index1_any _ _ _).mono ?_; rintro e w' ⟨rfl, rfl⟩; rw [HI.out]))
      go_roundg (gk - 1)
      case measure => omega
      case rel =>
        refine ⟨done ++ [a], b, ?_, by simp, by rw [HN.out]; simp; omega, hbl, by rw [← HS.out, HP.out]; simp, ?_, HBL.out.setCell (p := ⟨w.heap.size, done.length, none⟩) (Nat.le_refl _) _⟩
        · rw [← HB.out]
        · have h1 := HBK.out.setCell done.length (.string (bs a))
          rw [HST.out, ← HA.out] at h1
          rw [HN.out]
          exact h1
set_option maxHeartbeats 2000000 in
theorem split_any (l : List UInt8) (c : UInt8) (w : World) (hs : l.length ≤ 1073741824) :
    Calls Tryz.prog 80 #[.string (bs l), .string ⟨#[c]⟩] w
      (fun e w' => e = .returned (.slice (some ⟨w.heap.size, 0, none⟩) (pieces c l).length (pieces c l).length) ∧ Blk w' w.heap.size (((pieces c l).map fun p => Value.string (bs p)).toArray) 9 ∧ Below w.heap.size w w') := by
  go_enter Tryz.func80, Tryz.ntmps80
  go_wp2_with (refine (gensplit_any l c _ hs).mono ?_; rintro e w' ⟨rfl, hb⟩; have HB := Lib.hid hb; clear hb)
  go_ret
  exact ⟨rfl, HB.out⟩
end Go.Proofs.YtpbadglfegcdjaaGreatDoor
/- Valid UTF-8: the model's decoder and the standard's table tell the same. -/
namespace Go.Proofs.YtpbadglfegcdjaaGreatDoor
open Go
set_option linter.unusedVariables false
/-- The first byte's demand is met. -/
def leadOk (n b0 b1 b2 b3 : Nat) : Prop := (leadV b0).1 ≠ 0 ∧ (leadV b0).1 ≤ n ∧ (leadV b0).2.1 ≤ b1 ∧ b1 ≤ (leadV b0).2.2 ∧ ((leadV b0).1 ≤ 2 ∨ (128 ≤ b2 ∧ b2 ≤ 191)) ∧ ((leadV b0).1 ≤ 3 ∨ (128 ≤ b3 ∧ b3 ≤ 191))
set_option maxRecDepth 100000 in
set_option maxHeartbeats 8000000 in
theorem lead_dec (n b0 b1 b2 b3 : Nat) (h0 : 128 ≤ b0) (h0' : b0 < 256) (h1 : b1 < 256) (h2 : b2 < 256) (h3 : b3 < 256) :
    (leadOk n b0 b1 b2 b3 → (Lib.decodeN n b0 b1 b2 b3).2 = (leadV b0).1 ∧ (leadV b0).1 ≠ 1) ∧ (¬ leadOk n b0 b1 b2 b3 → Lib.decodeN n b0 b1 b2 b3 = (65533, 1)) := by
  unfold leadOk leadV
  by_cases c1 : 194 ≤ b0 ∧ b0 ≤ 223
  · simp only [if_pos c1]
    unfold Lib.decodeN
    refine ⟨fun h => ?_, fun h => ?_⟩ <;> (repeat' split) <;> first | rfl | (exfalso; omega) | (constructor <;> simp <;> omega) | simp
  · simp only [if_neg c1]
    by_cases c2 : b0 = 224
    · simp only [if_pos c2]
      unfold Lib.decodeN
      refine ⟨fun h => ?_, fun h => ?_⟩ <;> (repeat' split) <;> first | rfl | (exfalso; omega) | (constructor <;> simp <;> omega) | simp
    · simp only [if_neg c2]
      by_cases c3 : b0 = 237
      · simp only [if_pos c3]
        unfold Lib.decodeN
        refine ⟨fun h => ?_, fun h => ?_⟩ <;> (repeat' split) <;> first | rfl | (exfalso; omega) | (constructor <;> simp <;> omega) | simp
      · simp only [if_neg c3]
        by_cases c4 : 225 ≤ b0 ∧ b0 ≤ 239
        · simp only [if_pos c4]
          unfold Lib.decodeN
          refine ⟨fun h => ?_, fun h => ?_⟩ <;> (repeat' split) <;> first | rfl | (exfalso; omega) | (constructor <;> simp <;> omega) | simp
        · simp only [if_neg c4]
          by_cases c5 : b0 = 240
          · simp only [if_pos c5]
            unfold Lib.decodeN
            refine ⟨fun h => ?_, fun h => ?_⟩ <;> (repeat' split) <;> first | rfl | (exfalso; omega) | (constructor <;> simp <;> omega) | simp
          · simp only [if_neg c5]
            by_cases c6 : 241 ≤ b0 ∧ b0 ≤ 243
            · simp only [if_pos c6]
              unfold Lib.decodeN
              refine ⟨fun h => ?_, fun h => ?_⟩ <;> (repeat' split) <;> first | rfl | (exfalso; omega) | (constructor <;> simp <;> omega) | simp
            · simp only [if_neg c6]
              by_cases c7 : b0 = 244
              · simp only [if_pos c7]
                unfold Lib.decodeN
                refine ⟨fun h => ?_, fun h => ?_⟩ <;> (repeat' split) <;> first | rfl | (exfalso; omega) | (constructor <;> simp <;> omega) | simp
              · simp only [if_neg c7]
                unfold Lib.decodeN
                refine ⟨fun h => ?_, fun h => ?_⟩ <;> (repeat' split) <;> first | rfl | (exfalso; omega) | (constructor <;> simp <;> omega) | simp
theorem valid_step (n : Nat) (l : List UInt8) (hne : l ≠ []) : Lib.validGoD (n + 1) l = if (Lib.decodeL l).1 = 65533 ∧ (Lib.decodeL l).2 = 1 then false else Lib.validGoD n (l.drop (Lib.decodeL l).2) := by
  rw [Lib.validGoD, if_neg hne]
theorem valid_go : ∀ (n : Nat) (l : List UInt8), l.length ≤ n → Lib.validGoD n l = utf8L l
  | 0, l, h => by
    have : l = [] := List.length_eq_zero_iff.1 (by omega)
    subst this; rfl
  | n + 1, [], h => by simp [Lib.validGoD]; rfl
  | n + 1, a :: l, h => by
    rw [valid_step n _ (by simp), Lib.decodeL_N]
    simp only [List.length_cons] at h
    by_cases ha : a.toNat < 128
    · rw [utf8_cons a l ha]
      have hd : Lib.decodeN (a :: l).length ((a :: l).getD 0 0).toNat ((a :: l).getD 1 0).toNat ((a :: l).getD 2 0).toNat ((a :: l).getD 3 0).toNat = (a.toNat, 1) := by
        unfold Lib.decodeN; rw [if_pos (by simpa using ha)]; rfl
      rw [hd]
      simp only
      rw [if_neg (by omega)]
      exact valid_go n l (by omega)
    · rw [utf8_lead (a :: l) (by simp) (by simpa using ha)]
      have hn : (a :: l).length = l.length + 1 := rfl
      obtain ⟨k1, k2⟩ := lead_dec (a :: l).length ((a :: l).getD 0 0).toNat ((a :: l).getD 1 0).toNat ((a :: l).getD 2 0).toNat ((a :: l).getD 3 0).toNat (by simpa using ha) (UInt8.toNat_lt _) (UInt8.toNat_lt _) (UInt8.toNat_lt _) (UInt8.toNat_lt _)
      by_cases hk : leadOk (a :: l).length ((a :: l).getD 0 0).toNat ((a :: l).getD 1 0).toNat ((a :: l).getD 2 0).toNat ((a :: l).getD 3 0).toNat
      · obtain ⟨e1, e2⟩ := k1 hk
        rw [if_neg (by rw [e1]; exact fun h => e2 h.2), e1]
        obtain ⟨q0, q1, q2, q3, q4, q5⟩ := hk
        rw [valid_go n _ (by rw [List.length_drop, hn]; omega)]
        have t1 : tailB (leadV ((a :: l).getD 0 0).toNat).2.1 (leadV ((a :: l).getD 0 0).toNat).2.2 ((a :: l).getD 1 0) = true := by unfold tailB; simp only [Bool.and_eq_true, decide_eq_true_eq]; exact ⟨q2, q3⟩
        have t2 : (decide ((leadV ((a :: l).getD 0 0).toNat).1 ≤ 2) || tailB 128 191 ((a :: l).getD 2 0)) = true := by unfold tailB; simp only [Bool.or_eq_true, Bool.and_eq_true, decide_eq_true_eq]; exact q4
        have t3 : (decide ((leadV ((a :: l).getD 0 0).toNat).1 ≤ 3) || tailB 128 191 ((a :: l).getD 3 0)) = true := by unfold tailB; simp only [Bool.or_eq_true, Bool.and_eq_true, decide_eq_true_eq]; exact q5
        have t0 := bne_iff_ne.2 q0
        rw [t0, t1, t2, t3, decide_eq_true q1]
        simp only [Bool.and_self, Bool.true_and]
      · rw [k2 hk, if_pos ⟨rfl, rfl⟩]
        symm
        rw [Bool.eq_false_iff]
        intro hx
        apply hk
        unfold tailB at hx
        simp only [Bool.or_eq_true, Bool.and_eq_true, decide_eq_true_eq, bne_iff_ne] at hx
        obtain ⟨⟨⟨⟨⟨q0, q1⟩, q2, q3⟩, q4⟩, q5⟩, _⟩ := hx
        exact ⟨q0, q1, q2, q3, q4, q5⟩
theorem valid_utf8 (l : List UInt8) : Lib.validD l = utf8L l := valid_go _ l (Nat.le_refl _)

theorem lead_vals (a : Nat) : (leadV a).1 = 0 ∨ (leadV a).1 = 2 ∨ (leadV a).1 = 3 ∨ (leadV a).1 = 4 := by
  unfold leadV
  repeat' split
  all_goals simp
/-- A valid text behind which stands another one. -/
theorem utf8_app : ∀ (n : Nat) (a b : List UInt8), a.length ≤ n → utf8L a = true → utf8L (a ++ b) = utf8L b
  | 0, a, b, h, _ => by
    have : a = [] := List.length_eq_zero_iff.1 (by omega)
    subst this; rfl
  | n + 1, [], b, h, _ => rfl
  | n + 1, c :: a, b, h, hv => by
    simp only [List.length_cons] at h
    by_cases hc : c.toNat < 128
    · rw [utf8_cons c a hc] at hv
      show utf8L (c :: (a ++ b)) = _
      rw [utf8_cons c _ hc]
      exact utf8_app n a b (by omega) hv
    · have hc' : 128 ≤ ((c :: a).getD 0 0).toNat := by simpa using hc
      have e0 : (c :: a ++ b).getD 0 0 = (c :: a).getD 0 0 := rfl
      rw [utf8_lead (c :: a) (by simp) hc'] at hv
      simp only [Bool.and_eq_true] at hv
      obtain ⟨⟨⟨⟨⟨q0, q1⟩, q2⟩, q3⟩, q4⟩, q5⟩ := hv
      rw [utf8_lead (c :: a ++ b) (by simp) (by rw [e0]; exact hc'), e0]
      generalize hk : leadV ((c :: a).getD 0 0).toNat = k at *
      simp only [decide_eq_true_eq] at q1
      have hk0 : k.1 ≠ 0 := by simpa using q0
      have g : ∀ i, i < (c :: a).length → (c :: a ++ b).getD i 0 = (c :: a).getD i 0 := fun i hi => by
        rw [List.getD_eq_getElem?_getD, List.getD_eq_getElem?_getD, List.getElem?_append_left hi]
      have hk4 : k.1 = 2 ∨ k.1 = 3 ∨ k.1 = 4 := by
        rw [← hk] at hk0 ⊢
        exact (lead_vals _).resolve_left hk0
      have t1 : tailB k.2.1 k.2.2 ((c :: a ++ b).getD 1 0) = true := by rw [g 1 (by omega)]; exact q2
      have t2 : (decide (k.1 ≤ 2) || tailB 128 191 ((c :: a ++ b).getD 2 0)) = true := by
        rcases Nat.lt_or_ge 2 k.1 with h2 | h2
        · rw [g 2 (by omega)]; exact q3
        · simp [h2]
      have t3 : (decide (k.1 ≤ 3) || tailB 128 191 ((c :: a ++ b).getD 3 0)) = true := by
        rcases Nat.lt_or_ge 3 k.1 with h2 | h2
        · rw [g 3 (by omega)]; exact q4
        · simp [h2]
      have t4 : decide (k.1 ≤ (c :: a ++ b).length) = true := by simp only [decide_eq_true_eq, List.length_append]; omega
      rw [t1, t2, t3, t4, q0]
      simp only [Bool.and_self, Bool.true_and]
      rw [List.drop_append_of_le_length q1]
      exact utf8_app n _ b (by rw [List.length_drop]; simp; omega) q5
theorem utf8_two {a b : List UInt8} (h : utf8L a = true) : utf8L (a ++ b) = utf8L b := utf8_app _ a b (Nat.le_refl _) h
/-- What begins a valid text is no tail. -/
theorem utf8_head {c : UInt8} {l : List UInt8} (h : utf8L (c :: l) = true) : c.toNat < 128 ∨ 192 ≤ c.toNat := by
  by_cases hc : c.toNat < 128
  · exact .inl hc
  · right
    rw [utf8_lead (c :: l) (by simp) (by simpa using hc)] at h
    simp only [Bool.and_eq_true] at h
    have h0 := h.1.1.1.1.1
    simp only [List.getD_cons_zero, bne_iff_ne] at h0
    unfold leadV at h0
    by_cases h1 : 192 ≤ c.toNat
    · exact h1
    · exfalso; apply h0
      repeat' split
      all_goals first | rfl | (exfalso; omega)
end Go.Proofs.YtpbadglfegcdjaaGreatDoor
/- Valid UTF-8: the library's call, and lex.Utf8. -/
namespace Go.Proofs.YtpbadglfegcdjaaGreatDoor
open Go Go.RowKit
set_option linter.unusedVariables false
set_option maxRecDepth 100000

def laysValid_ren : Go.Shelf.Ren := ⟨fun | 196 => 83 | 259 => 95 | n => n, fun | 0 => 0 | 3 => 3 | 4 => 4 | 5 => 5 | 9 => 9 | 12 => 12 | 46 => 124 | 53 => 38 | 119 => 139 | 138 => 141 | 139 => 142 | n => n, fun | 3 => 0 | 4 => 1 | n => n⟩
theorem laysValid : Lays.n196 Tryz.prog laysValid_ren := {
  mixed := by kernel_rfl,
  f196 := Tryz.func83.trans (congrArg some (by kernel_rfl)),
  f259 := Tryz.func95.trans (congrArg some (by kernel_rfl)),
  t0 := Tryz.underlying0,
  a0 := Tryz.isAgg0,
  z0 := Tryz.sizeOf0,
  v0 := Tryz.zeroValue0,
  t3 := Tryz.underlying3,
  a3 := Tryz.isAgg3,
  z3 := Tryz.sizeOf3,
  v3 := Tryz.zeroValue3,
  t4 := Tryz.underlying4,
  a4 := Tryz.isAgg4,
  z4 := Tryz.sizeOf4,
  v4 := Tryz.zeroValue4,
  t5 := Tryz.underlying5,
  a5 := Tryz.isAgg5,
  z5 := Tryz.sizeOf5,
  v5 := Tryz.zeroValue5,
  t9 := Tryz.underlying9,
  a9 := Tryz.isAgg9,
  z9 := Tryz.sizeOf9,
  v9 := Tryz.zeroValue9,
  t12 := Tryz.underlying12,
  a12 := Tryz.isAgg12,
  z12 := Tryz.sizeOf12,
  v12 := Tryz.zeroValue12,
  t46 := Tryz.underlying124,
  a46 := Tryz.isAgg124,
  z46 := Tryz.sizeOf124,
  v46 := Tryz.zeroValue124,
  t53 := Tryz.underlying38,
  a53 := Tryz.isAgg38,
  z53 := Tryz.sizeOf38,
  v53 := Tryz.zeroValue38,
  t119 := Tryz.underlying139,
  a119 := Tryz.isAgg139,
  z119 := Tryz.sizeOf139,
  t138 := Tryz.underlying141,
  a138 := Tryz.isAgg141,
  z138 := Tryz.sizeOf141,
  v138 := Tryz.zeroValue141,
  t139 := Tryz.underlying142,
  a139 := Tryz.isAgg142,
  z139 := Tryz.sizeOf142,
  v139 := Tryz.zeroValue142,
  g3 := by kernel_rfl,
  g4 := by kernel_rfl }
/-- The tables of unicode/utf8 stand where the program lays them. -/
def U8T (w : World) : Prop := 0 < w.heap.size ∧ 1 < w.heap.size ∧ Lib.Utf8Tabs 0 1 w
theorem U8T.later {w w' : World} (h : U8T w) (hb : Below w.heap.size w w') : U8T w' :=
  ⟨Nat.lt_of_lt_of_le h.1 hb.size, Nat.lt_of_lt_of_le h.2.1 hb.size,
    fun c hc => (hb.cell (p := ⟨_, c, none⟩) h.1).trans (h.2.2.1 c hc),
    fun i hi => ⟨(hb.cell (p := ⟨_, 2 * i, none⟩) h.2.1).trans (h.2.2.2 i hi).1, (hb.cell (p := ⟨_, 2 * i + 1, none⟩) h.2.1).trans (h.2.2.2 i hi).2⟩⟩
theorem valid_any (s : ByteArray) (w : World) (hs : s.size ≤ 9223372036854775807) (hT : U8T w) :
    Calls Tryz.prog 83 #[.string s] w (Ans w (.bool (utf8L s.data.toList))) := by
  have h := Any.utf8_ValidString laysValid s w hs hT.2.2
  rw [valid_utf8] at h
  exact h
set_option maxHeartbeats 1000000 in
theorem utf8_any (s : ByteArray) (w : World) (hs : s.size ≤ 9223372036854775807) (hT : U8T w) :
    Calls Tryz.prog 57 #[.string s] w (Ans w (.bool (utf8L s.data.toList))) := by
  have HT := Lib.hid hT
  clear hT
  go_enter Tryz.func57, Tryz.ntmps57
  go_wp2_with (refine (valid_any s _ hs HT.out).mono ?_; rintro e w' ⟨rfl, hb⟩; have HB := Lib.hid hb; clear hb)
  go_ret
  exact ⟨rfl, HB.out⟩
end Go.Proofs.YtpbadglfegcdjaaGreatDoor
/- Nodes of descriptions: the plain mathematics. -/
namespace Go.Proofs.YtpbadglfegcdjaaGreatDoor
open Go
set_option linter.unusedVariables false

/-- A node. -/
structure Nd where
  kind : Int
  a : Int := 0
  b : Int := 0
  lo : Int := 0
  hi : Int := 0
  cls : BitVec 256 := 0#256
  text : List UInt8 := []
deriving DecidableEq
def nd0 : Nd := { kind := 0 }
def atN (l : List Nd) (i : Nat) : Nd := l.getD i nd0
/-- The node with its kind's fields alone. -/
def backN (n : Nd) : Nd :=
  if n.kind = 1 then { kind := 1 }
  else if n.kind = 2 then { kind := 2, cls := n.cls }
  else if n.kind = 3 then { kind := 3, text := n.text }
  else if n.kind = 6 ∨ n.kind = 8 ∨ n.kind = 9 then { kind := n.kind, a := n.a }
  else if n.kind = 7 then { kind := 7, a := n.a, lo := n.lo, hi := n.hi }
  else if n.kind = 4 ∨ n.kind = 5 then { kind := n.kind, a := n.a, b := n.b }
  else nd0
/-- May it be a node's text? -/
def textOk (t : List UInt8) : Bool := decide (t ≠ []) && utf8L t && decide ((34 : UInt8) ∉ t)
/-- Has the kind a part? -/
def partK (k : Int) : Prop := 4 ≤ k ∧ k ≤ 9
instance (k : Int) : Decidable (partK k) := by unfold partK; infer_instance
/-- The first one of a node's. -/
def firstP (l : List Nd) (i : Nat) : Nat :=
  if h : partK (atN l i).kind ∧ 0 ≤ (atN l i).a ∧ (atN l i).a < (i : Int) then firstP l (atN l i).a.toNat else i
termination_by i
decreasing_by omega
theorem firstP_le (l : List Nd) (i : Nat) : firstP l i ≤ i := by
  induction i using Nat.strongRecOn with
  | ind i ih =>
    rw [firstP]
    split
    · rename_i h
      have := ih (atN l i).a.toNat (by omega)
      omega
    · exact Nat.le_refl _
theorem firstP_go {l : List Nd} {i : Nat} (h : partK (atN l i).kind) (h0 : 0 ≤ (atN l i).a) (h1 : (atN l i).a < (i : Int)) : firstP l i = firstP l (atN l i).a.toNat := by
  rw [firstP, dif_pos ⟨h, h0, h1⟩]
theorem firstP_stop {l : List Nd} {i : Nat} (h : ¬ (partK (atN l i).kind ∧ 0 ≤ (atN l i).a ∧ (atN l i).a < (i : Int))) : firstP l i = i := by
  rw [firstP, dif_neg h]
/-- Is the node as it must be, where all ahead of it are? -/
def okN (l : List Nd) (i : Nat) (n : Nd) : Prop :=
  backN n = n ∧
  (n.kind = 1 ∨ n.kind = 2 ∨ (n.kind = 3 ∧ textOk n.text = true) ∨
  ((n.kind = 6 ∨ n.kind = 8 ∨ n.kind = 9) ∧ 0 ≤ n.a ∧ n.a = (i : Int) - 1) ∨
  (n.kind = 7 ∧ (0 ≤ n.a ∧ n.a = (i : Int) - 1) ∧ 0 ≤ n.lo ∧ n.lo ≤ n.hi ∧ n.hi ≤ 255) ∨
  ((n.kind = 4 ∨ n.kind = 5) ∧ (0 ≤ n.b ∧ n.b = (i : Int) - 1) ∧ 0 ≤ n.a ∧ n.a = (firstP l n.b.toNat : Int) - 1))
instance (l : List Nd) (i : Nat) (n : Nd) : Decidable (okN l i n) := by unfold okN; infer_instance
def fmd (l : List Nd) (i : Nat) : Bool := decide (okN l i (atN l i))
/-- Its form. -/
def Form (l : List Nd) : Prop := 0 < l.length ∧ (∀ i, i < l.length → okN l i (atN l i)) ∧ firstP l (l.length - 1) = 0
/-- What the nodes up to one tell. -/
theorem firstP_congr {l m : List Nd} : ∀ {i : Nat}, (∀ j, j ≤ i → atN l j = atN m j) → firstP l i = firstP m i := by
  intro i
  induction i using Nat.strongRecOn with
  | ind i ih =>
    intro h
    by_cases hc : partK (atN l i).kind ∧ 0 ≤ (atN l i).a ∧ (atN l i).a < (i : Int)
    · have hc2 := hc
      rw [h i (Nat.le_refl _)] at hc2
      rw [firstP_go hc.1 hc.2.1 hc.2.2, firstP_go hc2.1 hc2.2.1 hc2.2.2, ← h i (Nat.le_refl _)]
      exact ih _ (by omega) (fun j hj => h j (by omega))
    · have hc2 := hc
      rw [h i (Nat.le_refl _)] at hc2
      rw [firstP_stop hc, firstP_stop hc2]
theorem okN_congr {l m : List Nd} {i : Nat} (h : ∀ j, j ≤ i → atN l j = atN m j) (n : Nd) : okN l i n ↔ okN m i n := by
  unfold okN
  by_cases hb : 0 ≤ n.b ∧ n.b = (i : Int) - 1
  · rw [firstP_congr (l := l) (m := m) (i := n.b.toNat) (fun j hj => h j (by omega))]
  · simp [hb]
/-- The document's first one, of the node ahead of j: -1 where something is wrong. -/
def wantOf (n : Nd) (i : Nat) (k : Int) : Nd :=
  if n.kind = 1 then { kind := 1 }
  else if n.kind = 2 then { kind := 2, cls := n.cls }
  else if n.kind = 3 then { kind := 3, text := n.text }
  else if n.kind = 7 then { kind := 7, a := (i : Int) - 1, lo := n.lo, hi := n.hi }
  else if n.kind = 4 ∨ n.kind = 5 then { kind := n.kind, a := k - 1, b := (i : Int) - 1 }
  else { kind := n.kind, a := (i : Int) - 1 }
def refG (l : List Nd) : Nat → Int
  | 0 => -1
  | i + 1 =>
    let n := atN l i
    if n.kind = 1 ∨ n.kind = 2 then if n = wantOf n i 0 then (i : Int) else -1
    else if n.kind = 3 then if textOk n.text = true then (if n = wantOf n i 0 then (i : Int) else -1) else -1
    else if n.kind = 6 ∨ n.kind = 7 ∨ n.kind = 8 ∨ n.kind = 9 then
      if n.kind = 7 ∧ (n.lo < 0 ∨ n.lo > n.hi ∨ n.hi > 255) then -1
      else if n = wantOf n i 0 then refG l i else -1
    else if n.kind = 4 ∨ n.kind = 5 then
      let k := refG l i
      if k < 0 then -1
      else if h : k.toNat ≤ i then (if n = wantOf n i k then refG l k.toNat else -1) else -1
    else -1
termination_by j => j
theorem refG_lt (l : List Nd) (j : Nat) : refG l j < (j : Int) ∧ -1 ≤ refG l j := by
  induction j using Nat.strongRecOn with
  | ind j ih =>
    cases j with
    | zero => rw [refG]; omega
    | succ i =>
      rw [refG]
      simp only
      have h0 := ih i (by omega)
      split
      · split <;> omega
      · split
        · split
          · split <;> omega
          · omega
        · split
          · split
            · omega
            · split <;> omega
          · split
            · split
              · omega
              · split
                · rename_i hk
                  have h1 := ih (refG l i).toNat (by omega)
                  split <;> omega
                · omega
            · omega
theorem refG_ok (l : List Nd) : ∀ i, (∀ j, j ≤ i → okN l j (atN l j)) → refG l (i + 1) = (firstP l i : Int) := by
  intro i
  induction i using Nat.strongRecOn with
  | ind i ih =>
    intro h
    obtain ⟨hb, hk⟩ := h i (Nat.le_refl _)
    rw [refG]
    simp only
    generalize hn : atN l i = n at hb hk ⊢
    have stop : ¬ partK n.kind → firstP l i = i := fun hp => firstP_stop (by rw [hn]; exact fun hh => hp hh.1)
    rcases hk with hk | hk | ⟨hk, ht⟩ | ⟨hk, h0, h1⟩ | ⟨hk, ⟨h0, h1⟩, h2, h3, h4⟩ | ⟨hk, ⟨h0, h1⟩, h2, h3⟩
    · rw [if_pos (.inl hk), stop (by unfold partK; omega), if_pos]
      rw [← hb]; unfold backN wantOf; simp [hk]
    · rw [if_pos (.inr hk), stop (by unfold partK; omega), if_pos]
      rw [← hb]; unfold backN wantOf; simp [hk]
    · rw [if_neg (by omega), if_pos hk, if_pos ht, stop (by unfold partK; omega), if_pos]
      rw [← hb]; unfold backN wantOf; simp [hk]
    · rw [if_neg (by omega), if_neg (by omega), if_pos (by omega), if_neg (by omega), if_pos]
      · rw [firstP_go (by rw [hn]; unfold partK; omega) (by rw [hn]; omega) (by rw [hn]; omega), hn]
        obtain ⟨i', rfl⟩ : ∃ i', i = i' + 1 := ⟨i - 1, by omega⟩
        rw [ih i' (by omega) (fun j hj => h j (by omega)), show n.a.toNat = i' by omega]
      · rw [← hb]; unfold backN wantOf
        rcases hk with hk | hk | hk <;> simp [hk] <;> exact h1
    · rw [if_neg (by omega), if_neg (by omega), if_pos (by omega), if_neg (by omega), if_pos]
      · rw [firstP_go (by rw [hn]; unfold partK; omega) (by rw [hn]; omega) (by rw [hn]; omega), hn]
        obtain ⟨i', rfl⟩ : ∃ i', i = i' + 1 := ⟨i - 1, by omega⟩
        rw [ih i' (by omega) (fun j hj => h j (by omega)), show n.a.toNat = i' by omega]
      · rw [← hb]; unfold backN wantOf; simp [hk]; exact h1
    · obtain ⟨i', rfl⟩ : ∃ i', i = i' + 1 := ⟨i - 1, by omega⟩
      have hbn : n.b.toNat = i' := by omega
      rw [hbn] at h3
      have hle := firstP_le l i'
      rw [if_neg (by omega), if_neg (by omega), if_neg (by omega), if_pos hk, ih i' (by omega) (fun j hj => h j (by omega)), if_neg (by omega), dif_pos (by omega), if_pos]
      · have hf : firstP l (i' + 1) = firstP l n.a.toNat := by
          rw [firstP_go (by rw [hn]; unfold partK; omega) (by rw [hn]; omega) (by rw [hn]; omega), hn]
        obtain ⟨k, hk2⟩ : ∃ k, firstP l i' = k + 1 := ⟨firstP l i' - 1, by omega⟩
        rw [hf, hk2, Int.toNat_natCast, ih k (by omega) (fun j hj => h j (by omega)), show n.a.toNat = k by omega]
      · rw [← hb]; unfold backN wantOf
        rcases hk with hk | hk <;> simp [hk] <;> exact ⟨h3, by omega⟩
theorem refG_back (l : List Nd) : ∀ i, 0 ≤ refG l (i + 1) → refG l (i + 1) = (firstP l i : Int) ∧ ∀ j, firstP l i ≤ j → j ≤ i → okN l j (atN l j) := by
  intro i
  induction i using Nat.strongRecOn with
  | ind i ih =>
    intro h
    rw [refG] at h ⊢
    simp only at h ⊢
    generalize hn : atN l i = n at h ⊢
    have stop : ¬ partK n.kind → firstP l i = i := fun hp => firstP_stop (by rw [hn]; exact fun hh => hp hh.1)
    by_cases c1 : n.kind = 1 ∨ n.kind = 2
    · rw [if_pos c1] at h ⊢
      by_cases hw : n = wantOf n i 0
      · rw [if_pos hw, stop (by unfold partK; omega)]
        refine ⟨rfl, fun j hj1 hj2 => ?_⟩
        obtain rfl : j = i := by omega
        rw [hn]
        refine ⟨?_, by rcases c1 with c | c <;> simp [c]⟩
        conv => rhs; rw [hw]
        unfold backN wantOf; rcases c1 with c | c <;> simp [c]
      · rw [if_neg hw] at h; omega
    rw [if_neg c1] at h ⊢
    by_cases c2 : n.kind = 3
    · rw [if_pos c2] at h ⊢
      by_cases ht : textOk n.text = true
      · rw [if_pos ht] at h ⊢
        by_cases hw : n = wantOf n i 0
        · rw [if_pos hw, stop (by unfold partK; omega)]
          refine ⟨rfl, fun j hj1 hj2 => ?_⟩
          obtain rfl : j = i := by omega
          rw [hn]
          refine ⟨?_, by simp [c2, ht]⟩
          conv => rhs; rw [hw]
          unfold backN wantOf; simp [c2]
        · rw [if_neg hw] at h; omega
      · rw [if_neg ht] at h; omega
    rw [if_neg c2] at h ⊢
    by_cases c3 : n.kind = 6 ∨ n.kind = 7 ∨ n.kind = 8 ∨ n.kind = 9
    · rw [if_pos c3] at h ⊢
      by_cases c4 : n.kind = 7 ∧ (n.lo < 0 ∨ n.lo > n.hi ∨ n.hi > 255)
      · rw [if_pos c4] at h; omega
      rw [if_neg c4] at h ⊢
      by_cases hw : n = wantOf n i 0
      · rw [if_pos hw] at h ⊢
        have hna : n.a = (i : Int) - 1 := by
          rw [hw]; unfold wantOf
          rcases c3 with c | c | c | c <;> simp [c]
        cases i with
        | zero => rw [refG] at h; omega
        | succ i' =>
          obtain ⟨h1, h2⟩ := ih i' (by omega) h
          have hf : firstP l (i' + 1) = firstP l i' := by
            rw [firstP_go (by rw [hn]; unfold partK; omega) (by rw [hn]; omega) (by rw [hn]; omega), hn, show n.a.toNat = i' by omega]
          rw [hf]
          refine ⟨h1, fun j hj1 hj2 => ?_⟩
          by_cases hj : j = i' + 1
          · subst hj
            rw [hn]
            refine ⟨?_, by omega⟩
            conv => rhs; rw [hw]
            unfold backN wantOf
            rcases c3 with c | c | c | c <;> simp [c, hna]
          · exact h2 j hj1 (by omega)
      · rw [if_neg hw] at h; omega
    rw [if_neg c3] at h ⊢
    by_cases c4 : n.kind = 4 ∨ n.kind = 5
    · rw [if_pos c4] at h ⊢
      by_cases hk0 : refG l i < 0
      · rw [if_pos hk0] at h; omega
      rw [if_neg hk0] at h ⊢
      have hlt := (refG_lt l i).1
      rw [dif_pos (by omega)] at h ⊢
      by_cases hw : n = wantOf n i (refG l i)
      · rw [if_pos hw] at h ⊢
        have hna : n.a = refG l i - 1 := by
          rw [hw]; unfold wantOf
          rcases c4 with c | c <;> simp [c]
        have hnb : n.b = (i : Int) - 1 := by
          rw [hw]; unfold wantOf
          rcases c4 with c | c <;> simp [c]
        cases i with
        | zero => rw [refG] at hk0; omega
        | succ i' =>
          obtain ⟨h1, h2⟩ := ih i' (by omega) (by omega)
          have hle := firstP_le l i'
          rw [h1, Int.toNat_natCast] at h ⊢
          rw [h1] at hna
          cases hfp : firstP l i' with
          | zero => rw [hfp] at h; rw [refG] at h; omega
          | succ k =>
            rw [hfp] at h hna hle
            obtain ⟨g1, g2⟩ := ih k (by omega) h
            have hf : firstP l (i' + 1) = firstP l k := by
              rw [firstP_go (by rw [hn]; unfold partK; omega) (by rw [hn]; omega) (by rw [hn]; omega), hn, show n.a.toNat = k by omega]
            have hlek := firstP_le l k
            rw [hf]
            refine ⟨g1, fun j hj1 hj2 => ?_⟩
            by_cases hj : j = i' + 1
            · subst hj
              rw [hn]
              refine ⟨?_, ?_⟩
              · conv => rhs; rw [hw]
                unfold backN wantOf
                rcases c4 with c | c <;> simp [c, hna, hnb, h1, hfp]
              · refine .inr (.inr (.inr (.inr (.inr ⟨c4, by omega, by omega, ?_⟩))))
                rw [show n.b.toNat = i' by omega, hfp]; omega
            · by_cases hjk : j ≤ k
              · exact g2 j hj1 hjk
              · exact h2 j (by omega) (by omega)
      · rw [if_neg hw] at h; omega
    · rw [if_neg c4] at h; omega
/-- The document's form is the program's. -/
theorem form_ref (l : List Nd) : Form l ↔ 0 < l.length ∧ refG l l.length = 0 := by
  constructor
  · rintro ⟨h0, h1, h2⟩
    refine ⟨h0, ?_⟩
    have := refG_ok l (l.length - 1) (fun j hj => h1 j (by omega))
    rw [show l.length - 1 + 1 = l.length by omega, h2] at this
    exact this
  · rintro ⟨h0, h1⟩
    have h2 := refG_back l (l.length - 1)
    rw [show l.length - 1 + 1 = l.length by omega, h1] at h2
    obtain ⟨h3, h4⟩ := h2 (Int.le_refl _)
    have h5 : firstP l (l.length - 1) = 0 := by omega
    rw [h5] at h4
    exact ⟨h0, fun i hi => h4 i (Nat.zero_le _) (by omega), h5⟩
end Go.Proofs.YtpbadglfegcdjaaGreatDoor
