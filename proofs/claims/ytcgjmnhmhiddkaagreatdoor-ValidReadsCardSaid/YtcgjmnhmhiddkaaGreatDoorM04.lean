/- Runes of a text, and valid UTF-8: the plain mathematics. -/
import Derived.Test.YtcgjmnhmhiddkaaGreatDoorM03
import Derived.Test.YtcgjmnhmhiddkaaGreatDoorM02
import Derived.Lib.DecodeN
import Derived.Lib.Strings
import Derived.Lib.IndexBytes
import Derived.Deep.Cut
import Derived.BigQuiet
import Derived.IntWalk
import Derived.Deep.QuietTactic
import Derived.Lib.Bytealg
import Derived.Laws.Strings3
import Derived.Lib.BufferWrite
import Derived.Lib.UnsafeStr
import Derived.Laws.MakeOwn
import Derived.Deep.OwnRows
import Derived.Lib.Split
import Derived.Deep.LoopGhost
import Derived.Lib.Walk
import Derived.WalkSmall
import Derived.Lib.ValidU
import Derived.Lib.TrimUEq
import Derived.Shelf.Unicode.ValidAny
import Derived.Lib.LaidIn
import Derived.Lib.LaidU8T
import Derived.ChangeMaps5
namespace Go.Proofs.YtcgjmnhmhiddkaaGreatDoor
open Go
set_option linter.unusedVariables false
set_option linter.unusedSimpArgs false
def bs (l : List UInt8) : ByteArray := ⟨l.toArray⟩
theorem bs_size (l : List UInt8) : (bs l).size = l.length := rfl
theorem bs_data (l : List UInt8) : (bs l).data.toList = l := rfl
theorem bs_self (s : ByteArray) : bs s.data.toList = s := Lib.mk_data s
theorem bs_extract (l : List UInt8) (a b : Nat) : (bs l).extract a b = bs ((l.drop a).take (b - a)) := by
  rw [Lib.extract_eq]; rfl
theorem bs_get (l : List UInt8) (i : Nat) (h : i < (bs l).size) : (bs l)[i] = l[i]'(by rwa [bs_size] at h) := rfl
theorem bs_get! (l : List UInt8) (i : Nat) : (bs l).get! i = l.getD i 0 := by
  show l.toArray[i]! = _
  by_cases h : i < l.length
  · simp [h]
  · simp [h]; rfl
theorem dec_small (l : List UInt8) (p : Nat) (hb : (l.getD p 0).toNat < 128) : Utf8.decode (bs l) p = ((l.getD p 0).toNat, 1) := by
  rw [Lib.decode_at, bs_get!]; unfold Lib.decodeN; rw [if_pos hb]
theorem dec_big (l : List UInt8) (p : Nat) (h : p < l.length) (hb : 128 ≤ (l.getD p 0).toNat) :
    128 ≤ (Utf8.decode (bs l) p).1 ∧ (Utf8.decode (bs l) p).1 < 2147483648 ∧ 1 ≤ (Utf8.decode (bs l) p).2 ∧ p + (Utf8.decode (bs l) p).2 ≤ l.length ∧ ∀ j, 1 ≤ j → j < (Utf8.decode (bs l) p).2 → 128 ≤ (l.getD (p + j) 0).toNat := by
  rw [Lib.decode_at]
  simp only [bs_get!, bs_size]
  have h1 := (l.getD p 0).toNat_lt
  have h2 := (l.getD (p + 1) 0).toNat_lt
  have h3 := (l.getD (p + 2) 0).toNat_lt
  have h4 := (l.getD (p + 3) 0).toNat_lt
  have key : ∀ w, w ≤ 4 → (2 ≤ w → 128 ≤ (l.getD (p + 1) 0).toNat) → (3 ≤ w → 128 ≤ (l.getD (p + 2) 0).toNat) → (4 ≤ w → 128 ≤ (l.getD (p + 3) 0).toNat) → ∀ j, 1 ≤ j → j < w → 128 ≤ (l.getD (p + j) 0).toNat := by
    intro w hw a b c j j1 j2
    rcases (by omega : j = 1 ∨ j = 2 ∨ j = 3) with rfl | rfl | rfl
    · exact a (by omega)
    · exact b (by omega)
    · exact c (by omega)
  generalize (l.getD p 0).toNat = b0 at *
  generalize hb1 : (l.getD (p + 1) 0).toNat = b1 at *
  generalize hb2 : (l.getD (p + 2) 0).toNat = b2 at *
  generalize hb3 : (l.getD (p + 3) 0).toNat = b3 at *
  unfold Lib.decodeN
  rw [if_neg (by omega)]
  split
  · split
    · refine ⟨by simp; omega, by simp; omega, by simp, by simp; omega, fun j j1 j2 => key 2 (by omega) (by omega) (by omega) (by omega) j j1 j2⟩
    · refine ⟨by simp, by simp, by simp, by simp; omega, fun j j1 j2 => key 1 (by omega) (by omega) (by omega) (by omega) j j1 j2⟩
  · split
    · split
      · refine ⟨by simp; omega, by simp; omega, by simp, by simp; omega, fun j j1 j2 => key 3 (by omega) (by omega) (by omega) (by omega) j j1 j2⟩
      · refine ⟨by simp, by simp, by simp, by simp; omega, fun j j1 j2 => key 1 (by omega) (by omega) (by omega) (by omega) j j1 j2⟩
    · split
      · split
        · refine ⟨by simp; omega, by simp; omega, by simp, by simp; omega, fun j j1 j2 => key 4 (by omega) (by omega) (by omega) (by omega) j j1 j2⟩
        · refine ⟨by simp, by simp, by simp, by simp; omega, fun j j1 j2 => key 1 (by omega) (by omega) (by omega) (by omega) j j1 j2⟩
      · refine ⟨by simp, by simp, by simp, by simp; omega, fun j j1 j2 => key 1 (by omega) (by omega) (by omega) (by omega) j j1 j2⟩
theorem utf8_cons (a : UInt8) (l : List UInt8) (h : a.toNat < 128) : utf8L (a :: l) = utf8L l := by rw [utf8L.eq_def]; simp only; rw [if_pos h]
def leadV (a : Nat) : Nat × Nat × Nat :=
  if 194 ≤ a ∧ a ≤ 223 then (2, 128, 191) else if a = 224 then (3, 160, 191) else if a = 237 then (3, 128, 159) else if 225 ≤ a ∧ a ≤ 239 then (3, 128, 191)
  else if a = 240 then (4, 144, 191) else if 241 ≤ a ∧ a ≤ 243 then (4, 128, 191) else if a = 244 then (4, 128, 143) else (0, 0, 0)
theorem utf8_lead (l : List UInt8) (h0 : 0 < l.length) (h : 128 ≤ (l.getD 0 0).toNat) :
    utf8L l = ((leadV (l.getD 0 0).toNat).1 != 0 && decide ((leadV (l.getD 0 0).toNat).1 ≤ l.length) && tailB (leadV (l.getD 0 0).toNat).2.1 (leadV (l.getD 0 0).toNat).2.2 (l.getD 1 0)
      && (decide ((leadV (l.getD 0 0).toNat).1 ≤ 2) || tailB 128 191 (l.getD 2 0)) && (decide ((leadV (l.getD 0 0).toNat).1 ≤ 3) || tailB 128 191 (l.getD 3 0)) && utf8L (l.drop (leadV (l.getD 0 0).toNat).1)) := by
  match l, h0 with
  | a :: l, _ =>
    simp only [List.getD_cons_zero] at h ⊢
    have h256 := a.toNat_lt
    rw [utf8L.eq_def]
    simp only
    rw [if_neg (by omega)]
    unfold leadV
    by_cases c1 : 194 ≤ a.toNat ∧ a.toNat ≤ 223
    · rw [if_pos c1]
      match l with
      | [] => simp
      | b :: l => simp [c1]
    · rw [if_neg c1]
      by_cases c2 : a.toNat = 224
      · rw [if_pos c2]
        match l with
        | [] => simp
        | [b] => simp [c1]
        | b :: c :: l => simp [c1, c2]
      · rw [if_neg c2]
        by_cases c3 : a.toNat = 237
        · rw [if_pos c3]
          match l with
          | [] => simp
          | [b] => simp [c1]
          | b :: c :: l => simp [c1, c2, c3]
        · rw [if_neg c3]
          by_cases c4 : 225 ≤ a.toNat ∧ a.toNat ≤ 239
          · rw [if_pos c4]
            match l with
            | [] => simp
            | [b] => simp [c1]
            | b :: c :: l => simp [c1, c2, c3, c4]
          · rw [if_neg c4]
            by_cases c5 : a.toNat = 240
            · rw [if_pos c5]
              match l with
              | [] => simp
              | [b] => simp [c1]
              | [b, c] => simp [c1, c2, c3, c4]
              | b :: c :: d :: l => simp [c1, c2, c3, c4, c5]
            · rw [if_neg c5]
              by_cases c6 : 241 ≤ a.toNat ∧ a.toNat ≤ 243
              · rw [if_pos c6]
                match l with
                | [] => simp
                | [b] => simp [c1]
                | [b, c] => simp [c1, c2, c3, c4]
                | b :: c :: d :: l => simp [c1, c2, c3, c4, c5, c6]
              · rw [if_neg c6]
                by_cases c7 : a.toNat = 244
                · rw [if_pos c7]
                  match l with
                  | [] => simp
                  | [b] => simp [c1]
                  | [b, c] => simp [c1, c2, c3, c4]
                  | b :: c :: d :: l => simp [c1, c2, c3, c4, c5, c6, c7]
                · rw [if_neg c7]
                  match l with
                  | [] => simp
                  | [b] => simp [c1]
                  | [b, c] => simp [c1, c2, c3, c4]
                  | b :: c :: d :: l => simp [c1, c2, c3, c4, c5, c6, c7]
end Go.Proofs.YtcgjmnhmhiddkaaGreatDoor
namespace Go.Proofs.YtcgjmnhmhiddkaaGreatDoor
open Go Go.RowKit
set_option linter.unusedVariables false
theorem idx_miss {c : UInt8} : ∀ {l : List UInt8}, cutAt c l = none → Lib.indexByte l c = -1
  | [], _ => rfl
  | x :: l, h => by
    have hn := cutAt_none.1 h
    simp at hn
    unfold Lib.indexByte
    rw [if_neg (by simpa using Ne.symm hn.1), if_pos (by rw [idx_miss (cutAt_none.2 hn.2)]; rfl)]
theorem idx_hit {c : UInt8} : ∀ {l a b : List UInt8}, cutAt c l = some (a, b) → Lib.indexByte l c = (a.length : Int)
  | [], a, b, h => by cases h
  | x :: l, a, b, h => by
    unfold cutAt at h
    unfold Lib.indexByte
    by_cases e : x = c
    · rw [if_pos e] at h; cases h
      rw [if_pos (by simpa using e)]; rfl
    · rw [if_neg e] at h
      rw [if_neg (by simpa using e)]
      cases hc : cutAt c l with
      | none => rw [hc] at h; cases h
      | some p =>
        obtain ⟨p1, p2⟩ := p
        rw [hc] at h; cases h
        have hi := idx_hit hc
        rw [if_neg (by rw [hi]; simp), hi]; simp
set_option maxHeartbeats 1000000 in
set_option maxRecDepth 100000 in
theorem sidx_any (s : ByteArray) (c : Int) (w : World) :
    Calls Tryz.prog 143 #[.string s, .int .u8 c] w (Pure w (.int .i64 (Lib.indexByte s.data.toList c.toNat.toUInt8))) := by
  go_enter Tryz.func143, Tryz.ntmps143
  go_wp2
  rw [run_callFunc_extern Tryz.func156 (by kernel_rfl) (by kernel_rfl) (by kernel_rfl) (e := Extern.BytealgIndexByte.indexByte) (by kernel_rfl), Lib.run_indexByteString]
  simp only [Result.andThen]
  rw [Oper.upon_value]
  go_wp2
  go_ret
  exact ⟨rfl, rfl⟩
set_option maxHeartbeats 1000000 in
theorem idx_any (s : ByteArray) (c : Int) (w : World) :
    Calls Tryz.prog 174 #[.string s, .int .u8 c] w (Pure w (.int .i64 (Lib.indexByte s.data.toList c.toNat.toUInt8))) := by
  go_enter Tryz.func174, Tryz.ntmps174
  go_wp2_with (refine (sidx_any _ _ _).mono ?_; rintro e w' ⟨rfl, rfl⟩)
  go_ret
  exact ⟨rfl, rfl⟩
set_option maxHeartbeats 2000000 in
set_option maxRecDepth 100000 in
theorem sindex1_any (s : ByteArray) (c : UInt8) (w : World) :
    Calls Tryz.prog 125 #[.string s, .string ⟨#[c]⟩] w (Pure w (.int .i64 (Lib.indexByte s.data.toList c))) := by
  go_enter Tryz.func125, Tryz.ntmps125
  go_wp2_with (refine (sidx_any _ _ _).mono ?_; rintro e w' ⟨rfl, rfl⟩)
  · have h : ([c] == s.toList) = true := by assumption
    go_ret
    refine ⟨?_, rfl⟩
    have e : s.data.toList = [c] := by rw [← Lib.toList_data]; exact (beq_iff_eq.1 h).symm
    rw [e]
    simp [Lib.indexByte]
  · go_ret
    exact ⟨by simp; rfl, rfl⟩
set_option maxHeartbeats 2000000 in
set_option maxRecDepth 100000 in
theorem sindex0_any (s : ByteArray) (w : World) :
    Calls Tryz.prog 125 #[.string s, .string ⟨#[]⟩] w (Pure w (.int .i64 0)) := by
  go_enter Tryz.func125, Tryz.ntmps125
  go_wp2
  go_ret
  exact ⟨rfl, rfl⟩
set_option maxHeartbeats 2000000 in
theorem index1_any (s : ByteArray) (c : UInt8) (w : World) :
    Calls Tryz.prog 102 #[.string s, .string ⟨#[c]⟩] w (Pure w (.int .i64 (Lib.indexByte s.data.toList c))) := by
  go_enter Tryz.func102, Tryz.ntmps102
  go_wp2_with (refine (sindex1_any _ _ _).mono ?_; rintro e w' ⟨rfl, rfl⟩)
  go_ret
  exact ⟨rfl, rfl⟩
set_option maxHeartbeats 2000000 in
theorem scut_miss (s : ByteArray) (c : UInt8) (w : World) (h : cutAt c s.data.toList = none) :
    Calls Tryz.prog 137 #[.string s, .string ⟨#[c]⟩] w (Ans w (.tuple #[.string s, .string ⟨#[]⟩, .bool false])) := by
  have HI := Lib.hid (idx_miss h)
  clear h
  go_enter Tryz.func137, Tryz.ntmps137
  go_wp2_with (refine (sindex1_any _ _ _).mono ?_; rintro e w' ⟨rfl, rfl⟩; rw [HI.out])
  go_ret3
  exact ⟨rfl, Below.refl _ _⟩
set_option maxHeartbeats 2000000 in
theorem scut_hit (s : ByteArray) (c : UInt8) (a b : List UInt8) (w : World) (h : cutAt c s.data.toList = some (a, b)) (hs : s.size ≤ 4294967296) :
    Calls Tryz.prog 137 #[.string s, .string ⟨#[c]⟩] w (Ans w (.tuple #[.string (bs a), .string (bs b), .bool true])) := by
  have HI := Lib.hid (idx_hit h)
  have he := (cutAt_some h).1
  have hl : s.size = a.length + 1 + b.length := by rw [Lib.size_eq, he]; simp; omega
  have HA : Hid (s.extract 0 a.length = bs a) := by unfold Hid; rw [Lib.extract_eq, he]; simp; rfl
  have HB : Hid (s.extract (a.length + 1) s.size = bs b) := by
    unfold Hid; rw [Lib.extract_eq, hl, he]
    rw [show a ++ c :: b = (a ++ [c]) ++ b by simp, show a.length + 1 = (a ++ [c]).length by simp, List.drop_left']
    · simp; rfl
    · rfl
  have c1 : (0 : Int) ≤ ↑a.length := by omega
  have c2 : (↑a.length : Int) ≤ ↑s.size := by omega
  have c3 : (0 : Int) ≤ ↑a.length + 1 := by omega
  have c4 : (↑a.length + 1 : Int) ≤ ↑s.size := by omega
  clear h he hl
  go_enter Tryz.func137, Tryz.ntmps137
  go_wp2_with (refine (sindex1_any _ _ _).mono ?_; rintro e w' ⟨rfl, rfl⟩; rw [HI.out])
  have hw : IntKind.i64.wrap (↑a.length + 1) = ↑a.length + 1 := IntWalk.i64_in _ (by omega)
  have hn : ((a.length : Int) + 1).toNat = a.length + 1 := by omega
  go_quiet (fail)
  go_wp2
  go_ret3
  exact ⟨by rw [HA.out, HB.out]; rfl, ⟨rfl, rfl, rfl, Nat.le_refl _, fun _ _ => rfl⟩⟩
set_option maxHeartbeats 2000000 in
theorem scut0_any (s : ByteArray) (w : World) (hs : s.size ≤ 4294967296) :
    Calls Tryz.prog 137 #[.string s, .string ⟨#[]⟩] w (Ans w (.tuple #[.string ⟨#[]⟩, .string s, .bool true])) := by
  have HA : Hid (s.extract 0 0 = ⟨#[]⟩) := by unfold Hid; rw [Lib.extract_eq]; rfl
  have HB : Hid (s.extract 0 s.size = s) := by unfold Hid; rw [Lib.extract_eq, Lib.size_eq, List.drop_zero, Nat.sub_zero, List.take_length]
  go_enter Tryz.func137, Tryz.ntmps137
  go_wp2_with (refine (sindex0_any _ _).mono ?_; rintro e w' ⟨rfl, rfl⟩)
  go_quiet (fail)
  go_wp2
  go_ret3
  exact ⟨rfl, ⟨rfl, rfl, rfl, Nat.le_refl _, fun _ _ => rfl⟩⟩
set_option maxHeartbeats 2000000 in
theorem cut_miss (s : ByteArray) (c : UInt8) (w : World) (h : cutAt c s.data.toList = none) :
    Calls Tryz.prog 115 #[.string s, .string ⟨#[c]⟩] w (Ans w (.tuple #[.string s, .string ⟨#[]⟩, .bool false])) := by
  have HI := Lib.hid h
  clear h
  go_enter Tryz.func115, Tryz.ntmps115
  go_wp2_with (refine (scut_miss _ _ _ HI.out).mono ?_; rintro e w' ⟨rfl, hb⟩; have HB := Lib.hid hb; clear hb)
  go_ret3
  exact ⟨rfl, HB.out⟩
set_option maxHeartbeats 2000000 in
theorem cut_hit (s : ByteArray) (c : UInt8) (a b : List UInt8) (w : World) (h : cutAt c s.data.toList = some (a, b)) (hs : s.size ≤ 4294967296) :
    Calls Tryz.prog 115 #[.string s, .string ⟨#[c]⟩] w (Ans w (.tuple #[.string (bs a), .string (bs b), .bool true])) := by
  have HI := Lib.hid h
  clear h
  go_enter Tryz.func115, Tryz.ntmps115
  go_wp2_with (refine (scut_hit _ _ _ _ _ HI.out hs).mono ?_; rintro e w' ⟨rfl, hb⟩; have HB := Lib.hid hb; clear hb)
  go_ret3
  exact ⟨rfl, HB.out⟩
set_option maxHeartbeats 2000000 in
theorem cut0_any (s : ByteArray) (w : World) (hs : s.size ≤ 4294967296) :
    Calls Tryz.prog 115 #[.string s, .string ⟨#[]⟩] w (Ans w (.tuple #[.string ⟨#[]⟩, .string s, .bool true])) := by
  go_enter Tryz.func115, Tryz.ntmps115
  go_wp2_with (refine (scut0_any _ _ hs).mono ?_; rintro e w' ⟨rfl, hb⟩; have HB := Lib.hid hb; clear hb)
  go_ret3
  exact ⟨rfl, HB.out⟩
set_option maxHeartbeats 2000000 in
theorem sprefix_any (s : ByteArray) (c : UInt8) (w : World) :
    Calls Tryz.prog 163 #[.string s, .string ⟨#[c]⟩] w (Pure w (.bool (s.data.toList.head? == some c))) := by
  obtain ⟨l, rfl⟩ : ∃ l, s = bs l := ⟨_, (bs_self s).symm⟩
  match l with
  | [] =>
    go_enter Tryz.func163, Tryz.ntmps163
    go_wp2
    go_ret
    exact ⟨rfl, rfl⟩
  | a :: l =>
    have h1 : 1 ≤ (bs (a :: l)).size := by rw [bs_size]; simp
    have HX : Hid (((bs (a :: l)).extract 0 1).toList = [a]) := by unfold Hid; rw [bs_extract, Lib.toList_data]; rfl
    have HY : Hid ((⟨#[c]⟩ : ByteArray).toList = [c]) := by unfold Hid; rw [Lib.toList_data]
    have HR : Hid (((bs (a :: l)).data.toList.head? == some c) = decide ([a] = [c])) := by unfold Hid; simp [bs_data]; rfl
    generalize bs (a :: l) = s at *
    go_enter Tryz.func163, Tryz.ntmps163
    go_wp2
    go_ret
    exact ⟨by rw [HX.out, HR.out]; simp; rfl, rfl⟩
set_option maxHeartbeats 2000000 in
theorem scutp_miss (s : ByteArray) (c : UInt8) (w : World) (h : s.data.toList.head? ≠ some c) :
    Calls Tryz.prog 149 #[.string s, .string ⟨#[c]⟩] w (Pure w (.tuple #[.string s, .bool false])) := by
  have HI : Hid ((s.data.toList.head? == some c) = false) := by unfold Hid; simpa using h
  clear h
  go_enter Tryz.func149, Tryz.ntmps149
  go_wp2_with (refine (sprefix_any _ _ _).mono ?_; rintro e w' ⟨rfl, rfl⟩; rw [HI.out])
  go_ret2
  exact ⟨rfl, rfl⟩
set_option maxHeartbeats 2000000 in
theorem scutp_hit (c : UInt8) (l : List UInt8) (w : World) :
    Calls Tryz.prog 149 #[.string (bs (c :: l)), .string ⟨#[c]⟩] w (Pure w (.tuple #[.string (bs l), .bool true])) := by
  have HI : Hid (((bs (c :: l)).data.toList.head? == some c) = true) := by unfold Hid; simp [bs_data]
  have h1 : (1 : Int) ≤ (bs (c :: l)).size := by rw [bs_size, List.length_cons]; omega
  have HX : Hid ((bs (c :: l)).extract 1 (bs (c :: l)).size = bs l) := by unfold Hid; rw [bs_extract, bs_size]; simp
  generalize bs (c :: l) = s at *
  go_enter Tryz.func149, Tryz.ntmps149
  go_wp2_with (refine (sprefix_any _ _ _).mono ?_; rintro e w' ⟨rfl, rfl⟩; rw [HI.out])
  go_ret2
  exact ⟨by rw [HX.out]; rfl, rfl⟩
set_option maxHeartbeats 2000000 in
theorem cutp_miss (s : ByteArray) (c : UInt8) (w : World) (h : s.data.toList.head? ≠ some c) :
    Calls Tryz.prog 132 #[.string s, .string ⟨#[c]⟩] w (Pure w (.tuple #[.string s, .bool false])) := by
  have HI := Lib.hid h
  clear h
  go_enter Tryz.func132, Tryz.ntmps132
  go_wp2_with (refine (scutp_miss _ _ _ HI.out).mono ?_; rintro e w' ⟨rfl, rfl⟩)
  go_ret2
  exact ⟨rfl, rfl⟩
set_option maxHeartbeats 2000000 in
theorem cutp_hit (c : UInt8) (l : List UInt8) (w : World) :
    Calls Tryz.prog 132 #[.string (bs (c :: l)), .string ⟨#[c]⟩] w (Pure w (.tuple #[.string (bs l), .bool true])) := by
  go_enter Tryz.func132, Tryz.ntmps132
  go_wp2_with (refine (scutp_hit _ _ _).mono ?_; rintro e w' ⟨rfl, rfl⟩)
  go_ret2
  exact ⟨rfl, rfl⟩
set_option maxHeartbeats 4000000 in
set_option maxRecDepth 100000 in
theorem sclone_any (s : ByteArray) (w : World) (hlim : s.size ≤ 281474976710656) :
    Calls Tryz.prog 153 #[.string s] w (Ans w (.string s)) := by
  by_cases h0 : s.size = 0
  · have hs : s = ⟨#[]⟩ := ByteArray.ext (Array.eq_empty_of_size_eq_zero h0)
    subst hs
    go_enter Tryz.func153, Tryz.ntmps153
    go_wp2
    go_ret
    exact ⟨rfl, Below.refl _ _⟩
  · have hu : Tryz.prog.underlying 65 = some (.slice 5) := Tryz.underlying65
    have hup : Tryz.prog.underlying 101 = some (.pointer 5) := Tryz.underlying101
    have hinf : (Tryz.prog.info? 5).map (fun i => (i.zero, i.size, i.bytes)) = some (some (.int .u8 0), 1, 1) := by kernel_rfl
    have hinfo : (Tryz.prog.info? 5).map (·.size) = some 1 := by kernel_rfl
    have hco : Tryz.prog.cellsOf 5 = 1 := by kernel_rfl
    obtain ⟨M, hM⟩ : ∃ M, M = madeCells #[Value.int .u8 0] s.size := ⟨_, rfl⟩
    have hMs : M.size = s.size := by rw [hM]; simp [madeCells]
    have hmk : ∀ W : World, (Instr.makeSlice 65 (.int .i64 (s.size : Int)) (.int .i64 (s.size : Int))).run Tryz.prog W = .ok (.slice (some ⟨W.heap.size, 0, none⟩) s.size s.size) (W.alloc (.cells M 5)) := fun W => by
      rw [hM]
      exact run_make_row' _ _ _ 1 hu hinf rfl .i64 .i64 s.size (by omega) (by omega) W
    clear hM
    have hcp := Lib.run_copy_row_string (P := Tryz.prog) (w.alloc (.cells M 5)) 65 9 3 5 w.heap.size 0 s.size s.size s M 5 hu hinfo (heap_alloc_new w _) (Nat.le_refl _) (by omega)
    obtain ⟨Y, hY⟩ : ∃ Y, Y = (M.toList.take 0 ++ Lib.byteCells s.data.toList ++ M.toList.drop (0 + s.size)).toArray := ⟨_, rfl⟩
    rw [← hY] at hcp
    have hYl : Y.toList = Lib.byteCells s.data.toList := by
      rw [hY, List.toList_toArray, List.take_zero, List.nil_append, List.drop_of_length_le (by rw [Array.length_toList]; omega), List.append_nil]
    have hYs : Y.size = s.size := by rw [← Array.length_toList, hYl, Lib.byteCells_length, ← Lib.size_eq]
    have hgY : ((w.alloc (.cells M 5)).setRow w.heap.size Y).heap[w.heap.size]? = some (.cells Y 5 (0, 0)) := setRow_heap _ _ M _ 5 (0, 0) (heap_alloc_new w _)
    have hne : s.data.toList ≠ [] := fun e => h0 (by rw [Lib.size_eq, e]; rfl)
    have hUS := Lib.run_unsafeString_row (P := Tryz.prog) ((w.alloc (.cells M 5)).setRow w.heap.size Y) 101 3 9 5 hup hco w.heap.size Y.size (by unfold World.shape?; rw [hgY]) s.data.toList hne (by rw [← Lib.size_eq]; omega) (by rw [← Lib.size_eq]; omega)
      (fun j x hx => Lib.cells_of_row hgY Y.size j _ (by rw [List.take_of_length_le (by rw [Array.length_toList]; exact Nat.le_refl _), hYl]; simp [Lib.byteCells, hx]))
    rw [← Lib.size_eq] at hUS
    clear hY
    go_enter Tryz.func153, Tryz.ntmps153
    go_wp2
    go_ret
    have hb1 : Below w.heap.size w (w.alloc (.cells M 5)) := (Below.refl _ w).alloc (Nat.le_refl _) _
    have hb2 : Below w.heap.size (w.alloc (.cells M 5)) ((w.alloc (.cells M 5)).setRow w.heap.size Y) := ⟨rfl, rfl, rfl, by simp, fun k hk => setRow_other _ _ _ _ (by omega)⟩
    exact ⟨rfl, Lib.below_freeze (hb1.trans hb2) (p := ⟨w.heap.size, 0, none⟩) (Nat.le_refl _) _⟩
set_option maxHeartbeats 2000000 in
theorem clone_any (s : ByteArray) (w : World) (hlim : s.size ≤ 281474976710656) :
    Calls Tryz.prog 135 #[.string s] w (Ans w (.string s)) := by
  go_enter Tryz.func135, Tryz.ntmps135
  go_wp2_with (refine (sclone_any _ _ hlim).mono ?_; rintro e w' ⟨rfl, hb⟩; have HB := Lib.hid hb; clear hb)
  go_ret
  exact ⟨rfl, HB.out⟩
set_option maxHeartbeats 2000000 in
set_option maxRecDepth 100000 in
theorem count1_any (s : ByteArray) (c : UInt8) (w : World) :
    Calls Tryz.prog 173 #[.string s, .string ⟨#[c]⟩] w (Pure w (.int .i64 (Lib.countByte s.data.toList c))) := by
  go_enter Tryz.func173, Tryz.ntmps173
  go_wp2
  rw [run_callFunc_extern Tryz.func181 (by kernel_rfl) (by kernel_rfl) (by kernel_rfl) (e := Extern.BytealgCount.count) (by kernel_rfl), Lib.run_countString]
  simp only [Result.andThen]
  rw [Oper.upon_value]
  go_wp2
  go_ret
  exact ⟨by simp; rfl, rfl⟩
theorem pieces_hit {c : UInt8} : ∀ {l a b : List UInt8}, cutAt c l = some (a, b) → pieces c l = a :: pieces c b
  | [], a, b, h => by cases h
  | x :: l, a, b, h => by
    unfold cutAt at h
    by_cases e : x = c
    · rw [if_pos e] at h; cases h
      unfold pieces; rw [piecesA]; rw [if_pos e]
    · rw [if_neg e] at h
      cases hc : cutAt c l with
      | none => rw [hc] at h; cases h
      | some p =>
        obtain ⟨p1, p2⟩ := p
        rw [hc] at h; cases h
        have hi := pieces_hit hc
        unfold pieces at hi ⊢
        rw [piecesA, if_neg e]
        simp only [List.cons.injEq] at hi ⊢
        exact ⟨⟨trivial, hi.1⟩, hi.2⟩
theorem pieces_miss {c : UInt8} : ∀ {l : List UInt8}, cutAt c l = none → pieces c l = [l]
  | [], h => rfl
  | x :: l, h => by
    have hn := cutAt_none.1 h
    simp at hn
    have hi := pieces_miss (cutAt_none.2 hn.2)
    unfold pieces at hi ⊢
    rw [piecesA, if_neg (Ne.symm hn.1)]
    simp only [List.cons.injEq] at hi ⊢
    exact ⟨⟨trivial, hi.1⟩, hi.2⟩
theorem pieces_count (c : UInt8) : ∀ l : List UInt8, (pieces c l).length = Lib.countByte l c + 1
  | [] => rfl
  | x :: l => by
    have hi := pieces_count c l
    unfold pieces Lib.countByte at *
    rw [piecesA, List.count_cons]
    simp only [List.length_cons] at hi
    by_cases e : x = c
    · rw [if_pos e]; simp [e]; omega
    · rw [if_neg e]; simp [e]; omega
theorem count_le (c : UInt8) (l : List UInt8) : Lib.countByte l c ≤ l.length := List.count_le_length
def SplR (c : UInt8) (l : List UInt8) (wB : World) (b : Nat) (s0 s10 : Value) (w : World) (g : Nat) : Prop :=
  ∃ (done : List (List UInt8)) (rest : List UInt8), s0 = .string (bs rest) ∧ s10 = .int .i64 (done.length : Int) ∧ g + done.length + 1 = (pieces c l).length ∧ rest.length ≤ l.length ∧ done ++ pieces c rest = pieces c l
    ∧ Blk w b (Lib.cellsOf (done.map bs) (pieces c l).length) 9 ∧ Below wB.heap.size wB w
set_option maxHeartbeats 4000000 in
set_option maxRecDepth 1000000 in
theorem gensplit_any (l : List UInt8) (c : UInt8) (w : World) (hs : l.length ≤ 1073741824) :
    Calls Tryz.prog 164 #[.string (bs l), .string ⟨#[c]⟩, .int .i64 0, .int .i64 (-1)] w
      (fun e w' => e = .returned (.slice (some ⟨w.heap.size, 0, none⟩) (pieces c l).length (pieces c l).length) ∧ Blk w' w.heap.size (((pieces c l).map fun p => Value.string (bs p)).toArray) 9 ∧ Below w.heap.size w w') := by
  have hu : Tryz.prog.underlying 163 = some (.slice 9) := Tryz.underlying163
  have hinf : (Tryz.prog.info? 9).map (fun i => (i.zero, i.size, i.bytes)) = some (some (.string ByteArray.empty), 1, 16) := by kernel_rfl
  have hpl := pieces_count c l
  have hcl := count_le c l
  obtain ⟨N, hN⟩ : ∃ N, (pieces c l).length = N := ⟨_, rfl⟩
  have hN1 : 1 ≤ N := by omega
  have hNl : N ≤ 1073741825 := by omega
  have hcount : ((Lib.countByte l c : Nat) : Int) + 1 = (N : Int) := by omega
  have hmin : min (N : Int) (((bs l).size : Int) + 1) = (N : Int) := by rw [bs_size]; omega
  have hmk := fun W => run_make_row' (P := Tryz.prog) 163 9 (.string ByteArray.empty) 16 hu hinf rfl .i64 .i64 N (by omega) (by omega) W
  have hseb : ((⟨#[c]⟩ : ByteArray).toList).isEmpty = false := by rw [Lib.toList_data]; rfl
  have hc0 : (0 : Int) ≤ (Lib.countByte l c : Int) := by omega
  have hc1 : (Lib.countByte l c : Int) ≤ 1073741824 := by omega
  have hsz : ((bs l).size : Int) ≤ 1073741824 := by rw [bs_size]; omega
  go_enter Tryz.func164, Tryz.ntmps164
  go_wp2_with (first | (go_at_call 173; refine (count1_any _ _ _).mono ?_; rintro e w' ⟨rfl, rfl⟩; rw [bs_data]))
  have HN := Lib.hid hN
  have HM := Lib.hid hmk
  clear hmk hN hpl hcl hcount hmin hu hinf
  have hN63 : N ≤ 9223372036854775807 := by omega
  go_loopg [0, 10] (N - 1) (fun g s0 s10 wr => SplR c l w w.heap.size s0 s10 wr g)
  case atStart =>
    refine ⟨[], l, rfl, rfl, by rw [HN.out]; simp; omega, Nat.le_refl _, rfl, ?_, (Below.refl _ _).alloc (Nat.le_refl _) _⟩
    rw [HN.out, List.map_nil, Lib.cellsOf_nil]
    exact Blk.new _ _ _
  case round =>
    obtain ⟨done, rest, rfl, rfl, hg, hrl, hsp, hb, hbel⟩ := hrel
    rw [HN.out] at hg hb
    have HS := Lib.hid hsp
    have HBK := Lib.hid hb
    have HBL := Lib.hid hbel
    have hcell := hb.cell done.length
    have hfro := hb.frozen done.length
    have hnx := Lib.cellsOf_next (done := done.map bs) (N := N) (by simp; omega)
    rw [List.length_map] at hnx
    rw [hnx] at hcell
    have hpr : (pieces c rest).length = gk + 1 := by
      have h1 := congrArg List.length hsp
      rw [List.length_append, HN.out] at h1; omega
    have hset : ∀ p : List UInt8, (Lib.cellsOf (done.map bs) N).setIfInBounds done.length (.string (bs p)) = Lib.cellsOf ((done ++ [p]).map bs) N := fun p => by
      have := Lib.cellsOf_set (done := done.map bs) (N := N) (by simp; omega) (bs p)
      rw [List.length_map] at this; rw [this]; simp
    have HST := Lib.hid hset
    clear hsp hb hbel hnx hset
    have hlt2 : done.length < N := by omega
    have hlt3 : (done.length : Int) < (N : Int) := by omega
    cases hc : cutAt c rest with
    | none =>
      rw [pieces_miss hc] at hpr
      obtain rfl : gk = 0 := by simp at hpr; omega
      have hltz : ¬ ((done.length : Int) < (N : Int) - 1) := by omega
      have HP := Lib.hid (pieces_miss hc)
      have HNE : Hid (N = done.length + 1) := by unfold Hid; omega
      have hle1 : (done.length : Int) + 1 ≤ (N : Int) := by omega
      clear hc hpr
      go_wp2
      go_ret
      refine ⟨?_, ?_, ?_⟩
      · rw [HN.out]
        have e := HNE.out
        show Ending.returned (.slice (some ⟨w.heap.size, 0, none⟩) (done.length + 1) N) = _
        rw [← e]
      · have h1 := HBK.out.setCell done.length (.string (bs rest))
        rw [HST.out] at h1
        have e2 : done ++ [rest] = pieces c l := by rw [← HS.out, HP.out]
        rw [e2] at h1
        have e3 : Lib.cellsOf ((pieces c l).map bs) N = ((pieces c l).map fun p => Value.string (bs p)).toArray := by
          unfold Lib.cellsOf
          rw [List.length_map, HN.out, Nat.sub_self]; simp
        rw [e3] at h1
        exact h1
      · exact HBL.out.setCell (p := ⟨w.heap.size, done.length, none⟩) (Nat.le_refl _) _
    | some p =>
      obtain ⟨a, b⟩ := p
      have hpc := pieces_hit hc
      rw [hpc] at hpr
      have hg1 : 1 ≤ gk := by have := pieces_count c b; simp at hpr; omega
      have hltz : (done.length : Int) < (N : Int) - 1 := by omega
      have HP := Lib.hid hpc
      have HI : Hid (Lib.indexByte (bs rest).data.toList c = (a.length : Int)) := by unfold Hid; rw [bs_data]; exact idx_hit hc
      have he := (cutAt_some hc).1
      have hrl2 : rest.length = a.length + 1 + b.length := by rw [he]; simp; omega
      have HA : Hid ((bs rest).extract 0 a.length = bs a) := by unfold Hid; rw [bs_extract, he]; simp
      have HB : Hid ((bs rest).extract (a.length + 1) (bs rest).size = bs b) := by
        unfold Hid; rw [bs_extract, bs_size, hrl2, he]
        rw [show a ++ c :: b = (a ++ [c]) ++ b by simp, show a.length + 1 = (a ++ [c]).length by simp, List.drop_left']
        · simp
        · rfl
      have c1 : (0 : Int) ≤ ↑a.length := by omega
      have c2 : (↑a.length : Int) ≤ ↑(bs rest).size := by rw [bs_size]; omega
      have c3 : (0 : Int) ≤ ↑a.length + 1 := by omega
      have c4 : (↑a.length + 1 : Int) ≤ ↑(bs rest).size := by rw [bs_size]; omega
      have c5 : ¬ ((a.length : Int) < 0) := by omega
      have c6 : (a.length : Int) ≤ 1073741824 := by omega
      have hbl : b.length ≤ l.length := by omega
      clear hc hpc hpr he hrl2
      go_wp2_with (first | (go_at_call 102; refine (index1_any _ _ _).mono ?_; rintro e w' ⟨rfl, rfl⟩; rw [HI.out]))
      go_roundg (gk - 1)
      case measure => omega
      case rel =>
        refine ⟨done ++ [a], b, ?_, by simp, by rw [HN.out]; simp; omega, hbl, by rw [← HS.out, HP.out]; simp, ?_, HBL.out.setCell (p := ⟨w.heap.size, done.length, none⟩) (Nat.le_refl _) _⟩
        · rw [← HB.out]
        · have h1 := HBK.out.setCell done.length (.string (bs a))
          rw [HST.out, ← HA.out] at h1
          rw [HN.out]
          exact h1
set_option maxHeartbeats 2000000 in
theorem split_any (l : List UInt8) (c : UInt8) (w : World) (hs : l.length ≤ 1073741824) :
    Calls Tryz.prog 150 #[.string (bs l), .string ⟨#[c]⟩] w
      (fun e w' => e = .returned (.slice (some ⟨w.heap.size, 0, none⟩) (pieces c l).length (pieces c l).length) ∧ Blk w' w.heap.size (((pieces c l).map fun p => Value.string (bs p)).toArray) 9 ∧ Below w.heap.size w w') := by
  go_enter Tryz.func150, Tryz.ntmps150
  go_wp2_with (refine (gensplit_any l c _ hs).mono ?_; rintro e w' ⟨rfl, hb⟩; have HB := Lib.hid hb; clear hb)
  go_ret
  exact ⟨rfl, HB.out⟩
end Go.Proofs.YtcgjmnhmhiddkaaGreatDoor
namespace Go.Proofs.YtcgjmnhmhiddkaaGreatDoor
open Go
set_option linter.unusedVariables false
def leadOk (n b0 b1 b2 b3 : Nat) : Prop := (leadV b0).1 ≠ 0 ∧ (leadV b0).1 ≤ n ∧ (leadV b0).2.1 ≤ b1 ∧ b1 ≤ (leadV b0).2.2 ∧ ((leadV b0).1 ≤ 2 ∨ (128 ≤ b2 ∧ b2 ≤ 191)) ∧ ((leadV b0).1 ≤ 3 ∨ (128 ≤ b3 ∧ b3 ≤ 191))
set_option maxRecDepth 100000 in
set_option maxHeartbeats 8000000 in
theorem lead_dec (n b0 b1 b2 b3 : Nat) (h0 : 128 ≤ b0) (h0' : b0 < 256) (h1 : b1 < 256) (h2 : b2 < 256) (h3 : b3 < 256) :
    (leadOk n b0 b1 b2 b3 → (Lib.decodeN n b0 b1 b2 b3).2 = (leadV b0).1 ∧ (leadV b0).1 ≠ 1) ∧ (¬ leadOk n b0 b1 b2 b3 → Lib.decodeN n b0 b1 b2 b3 = (65533, 1)) := by
  unfold leadOk leadV
  by_cases c1 : 194 ≤ b0 ∧ b0 ≤ 223
  · simp only [if_pos c1]
    unfold Lib.decodeN
    refine ⟨fun h => ?_, fun h => ?_⟩ <;> (repeat' split) <;> first | rfl | (exfalso; omega) | (constructor <;> simp <;> omega) | simp
  · simp only [if_neg c1]
    by_cases c2 : b0 = 224
    · simp only [if_pos c2]
      unfold Lib.decodeN
      refine ⟨fun h => ?_, fun h => ?_⟩ <;> (repeat' split) <;> first | rfl | (exfalso; omega) | (constructor <;> simp <;> omega) | simp
    · simp only [if_neg c2]
      by_cases c3 : b0 = 237
      · simp only [if_pos c3]
        unfold Lib.decodeN
        refine ⟨fun h => ?_, fun h => ?_⟩ <;> (repeat' split) <;> first | rfl | (exfalso; omega) | (constructor <;> simp <;> omega) | simp
      · simp only [if_neg c3]
        by_cases c4 : 225 ≤ b0 ∧ b0 ≤ 239
        · simp only [if_pos c4]
          unfold Lib.decodeN
          refine ⟨fun h => ?_, fun h => ?_⟩ <;> (repeat' split) <;> first | rfl | (exfalso; omega) | (constructor <;> simp <;> omega) | simp
        · simp only [if_neg c4]
          by_cases c5 : b0 = 240
          · simp only [if_pos c5]
            unfold Lib.decodeN
            refine ⟨fun h => ?_, fun h => ?_⟩ <;> (repeat' split) <;> first | rfl | (exfalso; omega) | (constructor <;> simp <;> omega) | simp
          · simp only [if_neg c5]
            by_cases c6 : 241 ≤ b0 ∧ b0 ≤ 243
            · simp only [if_pos c6]
              unfold Lib.decodeN
              refine ⟨fun h => ?_, fun h => ?_⟩ <;> (repeat' split) <;> first | rfl | (exfalso; omega) | (constructor <;> simp <;> omega) | simp
            · simp only [if_neg c6]
              by_cases c7 : b0 = 244
              · simp only [if_pos c7]
                unfold Lib.decodeN
                refine ⟨fun h => ?_, fun h => ?_⟩ <;> (repeat' split) <;> first | rfl | (exfalso; omega) | (constructor <;> simp <;> omega) | simp
              · simp only [if_neg c7]
                unfold Lib.decodeN
                refine ⟨fun h => ?_, fun h => ?_⟩ <;> (repeat' split) <;> first | rfl | (exfalso; omega) | (constructor <;> simp <;> omega) | simp
theorem valid_step (n : Nat) (l : List UInt8) (hne : l ≠ []) : Lib.validGoD (n + 1) l = if (Lib.decodeL l).1 = 65533 ∧ (Lib.decodeL l).2 = 1 then false else Lib.validGoD n (l.drop (Lib.decodeL l).2) := by
  rw [Lib.validGoD, if_neg hne]
theorem valid_go : ∀ (n : Nat) (l : List UInt8), l.length ≤ n → Lib.validGoD n l = utf8L l
  | 0, l, h => by
    have : l = [] := List.length_eq_zero_iff.1 (by omega)
    subst this; rfl
  | n + 1, [], h => by simp [Lib.validGoD]; rfl
  | n + 1, a :: l, h => by
    rw [valid_step n _ (by simp), Lib.decodeL_N]
    simp only [List.length_cons] at h
    by_cases ha : a.toNat < 128
    · rw [utf8_cons a l ha]
      have hd : Lib.decodeN (a :: l).length ((a :: l).getD 0 0).toNat ((a :: l).getD 1 0).toNat ((a :: l).getD 2 0).toNat ((a :: l).getD 3 0).toNat = (a.toNat, 1) := by
        unfold Lib.decodeN; rw [if_pos (by simpa using ha)]; rfl
      rw [hd]
      simp only
      rw [if_neg (by omega)]
      exact valid_go n l (by omega)
    · rw [utf8_lead (a :: l) (by simp) (by simpa using ha)]
      have hn : (a :: l).length = l.length + 1 := rfl
      obtain ⟨k1, k2⟩ := lead_dec (a :: l).length ((a :: l).getD 0 0).toNat ((a :: l).getD 1 0).toNat ((a :: l).getD 2 0).toNat ((a :: l).getD 3 0).toNat (by simpa using ha) (UInt8.toNat_lt _) (UInt8.toNat_lt _) (UInt8.toNat_lt _) (UInt8.toNat_lt _)
      by_cases hk : leadOk (a :: l).length ((a :: l).getD 0 0).toNat ((a :: l).getD 1 0).toNat ((a :: l).getD 2 0).toNat ((a :: l).getD 3 0).toNat
      · obtain ⟨e1, e2⟩ := k1 hk
        rw [if_neg (by rw [e1]; exact fun h => e2 h.2), e1]
        obtain ⟨q0, q1, q2, q3, q4, q5⟩ := hk
        rw [valid_go n _ (by rw [List.length_drop, hn]; omega)]
        have t1 : tailB (leadV ((a :: l).getD 0 0).toNat).2.1 (leadV ((a :: l).getD 0 0).toNat).2.2 ((a :: l).getD 1 0) = true := by unfold tailB; simp only [Bool.and_eq_true, decide_eq_true_eq]; exact ⟨q2, q3⟩
        have t2 : (decide ((leadV ((a :: l).getD 0 0).toNat).1 ≤ 2) || tailB 128 191 ((a :: l).getD 2 0)) = true := by unfold tailB; simp only [Bool.or_eq_true, Bool.and_eq_true, decide_eq_true_eq]; exact q4
        have t3 : (decide ((leadV ((a :: l).getD 0 0).toNat).1 ≤ 3) || tailB 128 191 ((a :: l).getD 3 0)) = true := by unfold tailB; simp only [Bool.or_eq_true, Bool.and_eq_true, decide_eq_true_eq]; exact q5
        have t0 := bne_iff_ne.2 q0
        rw [t0, t1, t2, t3, decide_eq_true q1]
        simp only [Bool.and_self, Bool.true_and]
      · rw [k2 hk, if_pos ⟨rfl, rfl⟩]
        symm
        rw [Bool.eq_false_iff]
        intro hx
        apply hk
        unfold tailB at hx
        simp only [Bool.or_eq_true, Bool.and_eq_true, decide_eq_true_eq, bne_iff_ne] at hx
        obtain ⟨⟨⟨⟨⟨q0, q1⟩, q2, q3⟩, q4⟩, q5⟩, _⟩ := hx
        exact ⟨q0, q1, q2, q3, q4, q5⟩
theorem valid_utf8 (l : List UInt8) : Lib.validD l = utf8L l := valid_go _ l (Nat.le_refl _)
end Go.Proofs.YtcgjmnhmhiddkaaGreatDoor
namespace Go.Proofs.YtcgjmnhmhiddkaaGreatDoor
open Go Go.RowKit
set_option linter.unusedVariables false
set_option maxRecDepth 100000
def laysValid_ren : Go.Shelf.Ren := ⟨fun | 196 => 101 | 259 => 124 | n => n, fun | 0 => 0 | 3 => 3 | 4 => 4 | 5 => 5 | 9 => 9 | 12 => 12 | 46 => 186 | 53 => 40 | 119 => 182 | 138 => 184 | 139 => 185 | n => n, fun | 3 => 0 | 4 => 1 | n => n⟩
theorem laysValid : Lays.n196 Tryz.prog laysValid_ren := {
  mixed := by kernel_rfl,
  f196 := Tryz.func101.trans (congrArg some (by kernel_rfl)),
  f259 := Tryz.func124.trans (congrArg some (by kernel_rfl)),
  t0 := Tryz.underlying0,
  a0 := Tryz.isAgg0,
  z0 := Tryz.sizeOf0,
  v0 := Tryz.zeroValue0,
  t3 := Tryz.underlying3,
  a3 := Tryz.isAgg3,
  z3 := Tryz.sizeOf3,
  v3 := Tryz.zeroValue3,
  t4 := Tryz.underlying4,
  a4 := Tryz.isAgg4,
  z4 := Tryz.sizeOf4,
  v4 := Tryz.zeroValue4,
  t5 := Tryz.underlying5,
  a5 := Tryz.isAgg5,
  z5 := Tryz.sizeOf5,
  v5 := Tryz.zeroValue5,
  t9 := Tryz.underlying9,
  a9 := Tryz.isAgg9,
  z9 := Tryz.sizeOf9,
  v9 := Tryz.zeroValue9,
  t12 := Tryz.underlying12,
  a12 := Tryz.isAgg12,
  z12 := Tryz.sizeOf12,
  v12 := Tryz.zeroValue12,
  t46 := Tryz.underlying186,
  a46 := Tryz.isAgg186,
  z46 := Tryz.sizeOf186,
  v46 := Tryz.zeroValue186,
  t53 := Tryz.underlying40,
  a53 := Tryz.isAgg40,
  z53 := Tryz.sizeOf40,
  v53 := Tryz.zeroValue40,
  t119 := Tryz.underlying182,
  a119 := Tryz.isAgg182,
  z119 := Tryz.sizeOf182,
  t138 := Tryz.underlying184,
  a138 := Tryz.isAgg184,
  z138 := Tryz.sizeOf184,
  v138 := Tryz.zeroValue184,
  t139 := Tryz.underlying185,
  a139 := Tryz.isAgg185,
  z139 := Tryz.sizeOf185,
  v139 := Tryz.zeroValue185,
  g3 := by kernel_rfl,
  g4 := by kernel_rfl }
def U8T (w : World) : Prop := 0 < w.heap.size ∧ 1 < w.heap.size ∧ Lib.Utf8Tabs 0 1 w
theorem U8T.later {w w' : World} (h : U8T w) (hb : Below w.heap.size w w') : U8T w' :=
  ⟨Nat.lt_of_lt_of_le h.1 hb.size, Nat.lt_of_lt_of_le h.2.1 hb.size,
    fun c hc => (hb.cell (p := ⟨_, c, none⟩) h.1).trans (h.2.2.1 c hc),
    fun i hi => ⟨(hb.cell (p := ⟨_, 2 * i, none⟩) h.2.1).trans (h.2.2.2 i hi).1, (hb.cell (p := ⟨_, 2 * i + 1, none⟩) h.2.1).trans (h.2.2.2 i hi).2⟩⟩
theorem valid_any (s : ByteArray) (w : World) (hs : s.size ≤ 9223372036854775807) (hT : U8T w) :
    Calls Tryz.prog 101 #[.string s] w (Ans w (.bool (utf8L s.data.toList))) := by
  have h := Any.utf8_ValidString laysValid s w hs hT.2.2
  rw [valid_utf8] at h
  exact h
set_option maxHeartbeats 1000000 in
theorem utf8_any (s : ByteArray) (w : World) (hs : s.size ≤ 9223372036854775807) (hT : U8T w) :
    Calls Tryz.prog 66 #[.string s] w (Ans w (.bool (utf8L s.data.toList))) := by
  have HT := Lib.hid hT
  clear hT
  go_enter Tryz.func66, Tryz.ntmps66
  go_wp2_with (refine (valid_any s _ hs HT.out).mono ?_; rintro e w' ⟨rfl, hb⟩; have HB := Lib.hid hb; clear hb)
  go_ret
  exact ⟨rfl, HB.out⟩
end Go.Proofs.YtcgjmnhmhiddkaaGreatDoor
namespace Go.Proofs.YtcgjmnhmhiddkaaGreatDoor
open Go Go.RowKit Go.ChangeShapes Go.WideShapes Go.ChangeAt Go.Joins
set_option maxRecDepth 100000
section
variable {H : Type} {enc : TypeId × Value → H} {W : World} {base : Nat} {v : Value} {d : DataW H} {p : List MemPlace}
theorem open_str (hv : Value.okWide Tryz.prog W .any base 9 v) (h : DataW.Trod enc Tryz.prog W 0 (fun _ => true) true 9 v d p) : ∃ l : List UInt8, v = .string (bs l) ∧ l.length ≤ 9223372036854775807 := by
  obtain ⟨s, rfl, _, _, ws⟩ := Go.ChangeMaps.open_string Tryz.underlying9 hv h
  refine ⟨s.data.toList, by rw [bs_self], ?_⟩
  rw [← Lib.size_eq]; unfold maxLen at ws; omega
end
theorem firstD : (Rows.laid_unicode_utf8_first : DataW Unit) = Lib.firstData := by kernel_rfl
theorem acceptD : (Rows.laid_unicode_utf8_acceptRanges : DataW Unit) = Lib.acceptData := by kernel_rfl
theorem u8_of_laid {W : World} (h : laidMetH Tryz.prog [("unicode/utf8.acceptRanges", Rows.laid_unicode_utf8_acceptRanges), ("unicode/utf8.first", Rows.laid_unicode_utf8_first)] W) : U8T W := by
  rw [firstD, acceptD] at h
  have hL : laidMet Tryz.prog [("unicode/utf8.acceptRanges", Lib.acceptData), ("unicode/utf8.first", Lib.firstData)] W := h
  have ht := utf8Tabs_of_readsT (U8Types.of196 laysValid) ⟨by kernel_rfl, by kernel_rfl, by kernel_rfl, by kernel_rfl, by kernel_rfl, by kernel_rfl, by kernel_rfl⟩ (Lib.laidMet.reads hL (.tail _ (.head _))) (Lib.laidMet.reads hL (.head _))
  have h2 : Lib.Utf8Tabs 0 1 W := ht
  exact ⟨World.block_lt_of_cell? W _ (h2.1 0 (by omega)), World.block_lt_of_cell? W _ (h2.2 0 (by omega)).1, h2⟩
noncomputable def laidWorldU (os : Os) : World :=
  let w0 := World.holding Tryz.prog os ⟨#[], #[], []⟩
  let put (h : Array Obj) (g : Nat) (cs : Array Value) : Array Obj := h.modify g fun
    | .cells _ t frozen => .cells cs t frozen
    | o => o
  let h1 := put w0.heap 0 (Lib.firstTab.map fun z => Value.int .u8 z).toArray
  let h2 := put h1 1 ((List.range 16).flatMap fun i => [Value.int .u8 (Lib.accLo i), Value.int .u8 (Lib.accHi i)]).toArray
  { w0 with heap := h2 }
end Go.Proofs.YtcgjmnhmhiddkaaGreatDoor
namespace Go.Proofs.YtcgjmnhmhiddkaaGreatDoor
open Go
set_option linter.unusedVariables false
structure Nd where
  kind : Int
  a : Int := 0
  b : Int := 0
  lo : Int := 0
  hi : Int := 0
  cls : BitVec 256 := 0#256
  text : List UInt8 := []
deriving DecidableEq
def nd0 : Nd := { kind := 0 }
def atN (l : List Nd) (i : Nat) : Nd := l.getD i nd0
def backN (n : Nd) : Nd :=
  if n.kind = 1 then { kind := 1 }
  else if n.kind = 2 then { kind := 2, cls := n.cls }
  else if n.kind = 3 then { kind := 3, text := n.text }
  else if n.kind = 6 ∨ n.kind = 8 ∨ n.kind = 9 then { kind := n.kind, a := n.a }
  else if n.kind = 7 then { kind := 7, a := n.a, lo := n.lo, hi := n.hi }
  else if n.kind = 4 ∨ n.kind = 5 then { kind := n.kind, a := n.a, b := n.b }
  else nd0
def textOk (t : List UInt8) : Bool := decide (t ≠ []) && utf8L t && decide ((34 : UInt8) ∉ t)
def partK (k : Int) : Prop := 4 ≤ k ∧ k ≤ 9
instance (k : Int) : Decidable (partK k) := by unfold partK; infer_instance
def firstP (l : List Nd) (i : Nat) : Nat :=
  if h : partK (atN l i).kind ∧ 0 ≤ (atN l i).a ∧ (atN l i).a < (i : Int) then firstP l (atN l i).a.toNat else i
termination_by i
decreasing_by omega
theorem firstP_le (l : List Nd) (i : Nat) : firstP l i ≤ i := by
  induction i using Nat.strongRecOn with
  | ind i ih =>
    rw [firstP]
    split
    · rename_i h
      have := ih (atN l i).a.toNat (by omega)
      omega
    · exact Nat.le_refl _
theorem firstP_go {l : List Nd} {i : Nat} (h : partK (atN l i).kind) (h0 : 0 ≤ (atN l i).a) (h1 : (atN l i).a < (i : Int)) : firstP l i = firstP l (atN l i).a.toNat := by
  rw [firstP, dif_pos ⟨h, h0, h1⟩]
theorem firstP_stop {l : List Nd} {i : Nat} (h : ¬ (partK (atN l i).kind ∧ 0 ≤ (atN l i).a ∧ (atN l i).a < (i : Int))) : firstP l i = i := by
  rw [firstP, dif_neg h]
def okN (l : List Nd) (i : Nat) (n : Nd) : Prop :=
  backN n = n ∧
  (n.kind = 1 ∨ n.kind = 2 ∨ (n.kind = 3 ∧ textOk n.text = true) ∨
  ((n.kind = 6 ∨ n.kind = 8 ∨ n.kind = 9) ∧ 0 ≤ n.a ∧ n.a = (i : Int) - 1) ∨
  (n.kind = 7 ∧ (0 ≤ n.a ∧ n.a = (i : Int) - 1) ∧ 0 ≤ n.lo ∧ n.lo ≤ n.hi ∧ n.hi ≤ 255) ∨
  ((n.kind = 4 ∨ n.kind = 5) ∧ (0 ≤ n.b ∧ n.b = (i : Int) - 1) ∧ 0 ≤ n.a ∧ n.a = (firstP l n.b.toNat : Int) - 1))
instance (l : List Nd) (i : Nat) (n : Nd) : Decidable (okN l i n) := by unfold okN; infer_instance
def Form (l : List Nd) : Prop := 0 < l.length ∧ (∀ i, i < l.length → okN l i (atN l i)) ∧ firstP l (l.length - 1) = 0
theorem firstP_congr {l m : List Nd} : ∀ {i : Nat}, (∀ j, j ≤ i → atN l j = atN m j) → firstP l i = firstP m i := by
  intro i
  induction i using Nat.strongRecOn with
  | ind i ih =>
    intro h
    by_cases hc : partK (atN l i).kind ∧ 0 ≤ (atN l i).a ∧ (atN l i).a < (i : Int)
    · have hc2 := hc
      rw [h i (Nat.le_refl _)] at hc2
      rw [firstP_go hc.1 hc.2.1 hc.2.2, firstP_go hc2.1 hc2.2.1 hc2.2.2, ← h i (Nat.le_refl _)]
      exact ih _ (by omega) (fun j hj => h j (by omega))
    · have hc2 := hc
      rw [h i (Nat.le_refl _)] at hc2
      rw [firstP_stop hc, firstP_stop hc2]
theorem okN_congr {l m : List Nd} {i : Nat} (h : ∀ j, j ≤ i → atN l j = atN m j) (n : Nd) : okN l i n ↔ okN m i n := by
  unfold okN
  by_cases hb : 0 ≤ n.b ∧ n.b = (i : Int) - 1
  · rw [firstP_congr (l := l) (m := m) (i := n.b.toNat) (fun j hj => h j (by omega))]
  · simp [hb]
end Go.Proofs.YtcgjmnhmhiddkaaGreatDoor
