/- Nodes laid where there is room: walked. -/
import Derived.Test.YtpbadglfegcdjaaGreatDoorM11
import Derived.Test.YtpbadglfegcdjaaGreatDoorM12
import Derived.Test.YtpbadglfegcdjaaGreatDoorM08
import Derived.Test.YtpbadglfegcdjaaGreatDoorM09
import Derived.OwnWalk
namespace Go.Proofs.YtpbadglfegcdjaaGreatDoor
open Go Go.RowKit
set_option linter.unusedVariables false
set_option linter.unusedSimpArgs false

theorem wpList_append_nd_fits {w : World} {ops : Array Oper} {rest : List Oper} {o : Oper} {a : Act} {Q : Exit → Act → World → Prop} (hgd : o.guard = none) (s x : Operand)
    (ho : o.op = .call { callee := .builtin .append, args := #[s, x], argTypes := #[22, 22] })
    (base g cap : Nat) (l : List Nd) (hs : a.eval s = .slice (some ⟨g, 0, none⟩) l.length cap) (hown : OwnN w base (.slice (some ⟨g, 0, none⟩) l.length cap) l)
    (b : Nat) (t : Nd) (hx : a.eval x = .slice (some ⟨b, 0, none⟩) 1 1) (hnew : Blk w b (ndC t) 43) (hroom : l.length + 1 ≤ cap)
    (h : ∀ w', OwnN w' base (.slice (some ⟨g, 0, none⟩) (l ++ [t]).length cap) (l ++ [t]) → w.grownBy w' (some g) → wpList Tryz.prog ops Q rest (a.put o.dst (.slice (some ⟨g, 0, none⟩) (l.length + 1) cap)) w') : wpList Tryz.prog ops Q (o :: rest) a w := by
  obtain ⟨ib, hib, hz0, hz1, hz2⟩ := info_parts infoNd
  have hf1 : flat10 [t] = (ndC t).toList := by simp [flat10]
  have hnews : ∀ (j : Nat) (u : Value), (flat10 [t])[j]? = some u → w.cell? ((⟨b, 0, none⟩ : Addr).add j) = some u := by
    intro j u hu
    have hadd : (⟨b, 0, none⟩ : Addr).add j = ⟨b, j, none⟩ := by unfold Addr.add; split <;> simp_all
    rw [hf1] at hu
    rw [hadd, hnew.cell, ← hu]; simp
  have hone : ∀ u ∈ flat10 [t], u.oneCell' = true := by
    intro u hu
    rw [hf1] at hu
    simp only [ndC, List.mem_cons, List.not_mem_nil, or_false] at hu
    rcases hu with rfl | rfl | rfl | rfl | rfl | rfl | rfl | rfl | rfl | rfl <;> rfl
  refine wpList_append_fits w hgd s x 22 ho base 43 ib 10 Tryz.underlying22 hib hz1 g l.length cap (flat10 l) hs hown ⟨b, 0, none⟩ 1 1 (flat10 [t]) hx rfl hnews hone hroom fun w' h2 h3 => h w' ?_ h3
  unfold OwnN
  rw [List.length_append, flat10_append]; exact h2
theorem gb_of {ro : Option Nat} {w w' : World} (h : Below w.heap.size w w') : w.grownBy w' ro := ⟨h.os, h.tape, h.output, h.size, fun k hk _ => h.block k hk⟩
structure LaidF (w0 : World) (g cap : Nat) (A : Option Addr) (m L : List Nd) (w : World) : Prop where
  gb : w0.grownBy w (some g)
  own : OwnN w g (.slice (some ⟨g, 0, none⟩) L.length cap) L
  row : NRow w A m
theorem OwnN.gb {w w' : World} {base g cap : Nat} {L : List Nd} (h : OwnN w base (.slice (some ⟨g, 0, none⟩) L.length cap) L) (hb : Below w.heap.size w w') : OwnN w' base (.slice (some ⟨g, 0, none⟩) L.length cap) L := h.later hb
theorem gb_trans {a b c : World} {ro : Option Nat} (h : a.grownBy b ro) (k : b.grownBy c ro) : a.grownBy c ro :=
  ⟨k.os.trans h.os, k.tape.trans h.tape, k.output.trans h.output, Nat.le_trans h.size k.size, fun j hj hne => (k.block j (Nat.lt_of_lt_of_le hj h.size) hne).trans (h.block j hj hne)⟩
theorem LaidF.later {w0 w w' : World} {g cap : Nat} {A : Option Addr} {m L : List Nd} (h : LaidF w0 g cap A m L w) (hb : Below w.heap.size w w') : LaidF w0 g cap A m L w' :=
  ⟨gb_trans h.gb (gb_of hb), h.own.later hb, h.row.later hb⟩
theorem NRow.gb {w w' : World} {a : Option Addr} {l : List Nd} {g : Nat} (h : NRow w a l) (ha : ∀ b o, a = some ⟨b, o, none⟩ → b ≠ g) (hb : w.grownBy w' (some g)) : NRow w' a l := fun i hi => by
  obtain ⟨b, off, h1, hlt, hc⟩ := h i hi
  exact ⟨b, off, h1, Nat.lt_of_lt_of_le hlt hb.size, fun j hj => (World.cell?_of_block (a := ⟨b, off + i * 10 + j, none⟩) (hb.block b hlt (fun e => ha b off h1 (Option.some.inj e)))).trans (hc j hj)⟩
def LaidFL (w0 : World) (g cap : Nat) (A : Option Addr) (l0 m : List Nd) (d : Int) (lst i : Value) (w : World) : Prop :=
  ∃ k : Nat, k ≤ m.length ∧ i = .int .i64 (k : Int) ∧ lst = .slice (some ⟨g, 0, none⟩) (l0.length + k) cap ∧ LaidF w0 g cap A m (l0 ++ (m.take k).map (mvN d)) w
def LaidFPost (w0 : World) (g cap : Nat) (L : List Nd) (e : Ending) (w' : World) : Prop := e = .returned (.slice (some ⟨g, 0, none⟩) L.length cap) ∧ OwnN w' g (.slice (some ⟨g, 0, none⟩) L.length cap) L ∧ w0.grownBy w' (some g)
set_option maxHeartbeats 8000000 in
set_option maxRecDepth 100000 in
theorem laid_fits (l0 m : List Nd) (d : Int) (g cap : Nat) (A : Option Addr) (c : Nat) (w : World) (hown : OwnN w g (.slice (some ⟨g, 0, none⟩) l0.length cap) l0) (hrow : NRow w A m)
    (hA : ∀ b o, A = some ⟨b, o, none⟩ → b ≠ g) (hroom : l0.length + m.length ≤ cap) (hlen : l0.length + m.length < 1073741824) (hok : ∀ n ∈ m, MvOk d n) :
    Calls Tryz.prog 126 #[.slice (some ⟨g, 0, none⟩) l0.length cap, .slice A m.length c, .int .i64 d] w (LaidFPost w g cap (l0 ++ m.map (mvN d))) := by
  have HS0 : Hid (LaidF w g cap A m l0 w) := ⟨(⟨rfl, rfl, rfl, Nat.le_refl _, fun _ _ _ => rfl⟩ : World.grownBy _ _ _), hown, hrow⟩
  have HA := Lib.hid hA
  have HOK := Lib.hid hok
  clear hown hrow hA hok
  go_enter Tryz.func126, Tryz.ntmps126
  go_wp2
  go_loopw [0, 11] (LaidFL w g cap A l0 m d) (fun _ i _ => m.length - (intOf i).toNat)
  case atStart => exact ⟨0, Nat.zero_le _, rfl, rfl, by simpa using HS0.out⟩
  case round =>
    obtain ⟨k, hk, rfl, rfl, hs⟩ := hrel
    have HS := Lib.hid hs
    by_cases hlt : k < m.length
    · have hltz : (k : Int) < (m.length : Int) := by omega
      obtain ⟨ba, oa, rfl, -, -⟩ := hs.row k hlt
      have g' : At10 wr ba (oa + k * 10) (m.getD k nd0) := hs.row.at hlt rfl
      have HN : Hid ((m.take (k + 1)).map (mvN d) = (m.take k).map (mvN d) ++ [mvN d (m.getD k nd0)]) := by
        unfold Hid
        rw [List.take_succ_eq_append_getElem hlt, List.map_append, List.getD_eq_getElem?_getD, List.getElem?_eq_getElem hlt]; rfl
      have HM := Lib.hid (HOK.out (m.getD k nd0) (by rw [List.getD_eq_getElem?_getD, List.getElem?_eq_getElem hlt]; exact List.getElem_mem _))
      have HL : Hid ((l0 ++ (m.take k).map (mvN d)).length = l0.length + k) := by unfold Hid; rw [List.length_append, List.length_map, List.length_take]; omega
      generalize (m.take k).map (mvN d) = L at *
      generalize m.getD k nd0 = n at *
      clear hs
      unfold At10 at g'
      obtain ⟨g0, g1, g2, g3, g4, g5, g6, g7, g8, g9⟩ := g'
      go_upto_region 4 with (fail)
      have HS2 := Lib.hid (HS.out.later ((Below.refl _ _).alloc (Nat.le_refl _) (.cells (ndC n) 43)))
      have HB2 := Lib.hid (Blk.new wr (ndC n) 43)
      unfold ndC at HS2 HB2
      generalize wr.alloc (.cells #[.int .i64 n.kind, .int .i64 n.a, .int .i64 n.b, .int .i64 n.lo, .int .i64 n.hi, .int .u64 (wd n.cls 0), .int .u64 (wd n.cls 1), .int .u64 (wd n.cls 2), .int .u64 (wd n.cls 3), .string (bs n.text)] 43) = w2 at *
      generalize wr.heap.size = bx at *
      clear g0 g1 g2 g3 g4 g5 g6 g7 g8 g9
      obtain ⟨g0, g1, g2, g3, g4, g5, g6, g7, g8, g9⟩ := ten_cells HB2.out
      go_wp2_with fail
      refine (moved_any n d HM.out _).mono ?_; rintro e w3 ⟨rfl, hb3⟩
      have HS3 := Lib.hid (HS2.out.later hb3)
      clear hb3 g0 g1 g2 g3 g4 g5 g6 g7 g8 g9
      generalize mvN d n = x at *
      unfold ndC
      have HS4 := Lib.hid (HS3.out.later ((Below.refl _ _).alloc (Nat.le_refl _) (.cells (ndC x) 43)))
      have HK := Lib.hid (Blk.new w3 (ndC x) 43)
      have hrm : (l0 ++ L).length + 1 ≤ cap := by rw [HL.out]; omega
      have HRM := Lib.hid hrm
      have HV : Hid (Value.slice (some ⟨g, 0, none⟩) (l0.length + k) cap = Value.slice (some ⟨g, 0, none⟩) (l0 ++ L).length cap) := by unfold Hid; rw [HL.out]
      clear hrm
      unfold ndC at HS4 HK
      go_wp2_with (at_builtin; refine wpList_append_nd_fits rfl _ _ rfl g g cap (l0 ++ L) (HV.out ▸ rfl) HS4.out.own w3.heap.size x rfl HK.out HRM.out ?_; intro w7 ho7 hb7; have HO7 := Lib.hid ho7; have HB7 := Lib.hid hb7; clear ho7 hb7)
      have HS7 : Hid (LaidF w g cap (some ⟨ba, oa, none⟩) m (l0 ++ (L ++ [x])) w7) := by
        refine ⟨gb_trans HS4.out.gb HB7.out, by rw [← List.append_assoc]; exact HO7.out, HS4.out.row.gb HA.out HB7.out⟩
      go_roundw
      case rel => exact ⟨k + 1, by omega, by go_num, by have := HL.out; rw [List.length_append] at this; simp only [List.length_append] at *; congr 1; omega, by rw [HN.out]; exact HS7.out⟩
      case measure => simp [intOf]; omega
    · obtain rfl : k = m.length := by omega
      have HO : Hid (LaidFPost w g cap (l0 ++ m.map (mvN d)) (.returned (.slice (some ⟨g, 0, none⟩) (l0.length + m.length) cap)) wr) := by
        have h := hs.own
        have hg := hs.gb
        rw [List.take_length] at h
        exact ⟨by simp, h, hg⟩
      clear hs
      go_wp2
      go_ret
      exact HO.out
end Go.Proofs.YtpbadglfegcdjaaGreatDoor
/- Form, Same, Leaf, Sub: walked. -/
namespace Go.Proofs.YtpbadglfegcdjaaGreatDoor
open Go Go.RowKit
set_option linter.unusedVariables false
set_option linter.unusedSimpArgs false

def Txt (l : List Nd) : Prop := ∀ n ∈ l, n.text.length ≤ 281474976710656
/-- The form, as a bool. -/
def formB (l : List Nd) : Bool := decide (0 < l.length) && ((List.range l.length).all fun i => fmd l i) && decide (firstP l (l.length - 1) = 0)
theorem formB_iff (l : List Nd) : formB l = true ↔ Form l := by
  unfold formB Form fmd
  simp only [Bool.and_eq_true, decide_eq_true_iff, List.all_eq_true, List.mem_range]
  exact ⟨fun ⟨⟨a, b⟩, c⟩ => ⟨a, b, c⟩, fun ⟨a, b, c⟩ => ⟨⟨a, b⟩, c⟩⟩
theorem formB_eq {l : List Nd} (h : Form l) : formB l = true := (formB_iff l).2 h
theorem formB_not {l : List Nd} (h : ¬ Form l) : formB l = false := by
  cases hb : formB l with
  | false => rfl
  | true => exact absurd ((formB_iff l).1 hb) h
def FormL (w0 : World) (A : Option Addr) (l : List Nd) (c : Nat) (i : Value) (w : World) : Prop :=
  ∃ k : Nat, k ≤ l.length ∧ i = .int .i64 (k : Int) ∧ (∀ j, j < k → fmd l j = true) ∧ FmS w0 A l c w
/-- A description's value, and its row. -/
def IsD (l : List Nd) (v : Value) (w : World) : Prop := ∃ A c, l.length ≤ c ∧ v = .agg #[.slice A l.length c] ∧ NRow w A l
theorem IsD.later (l : List Nd) (v : Value) (w w' : World) (h : IsD l v w) (hb : Below w.heap.size w w') : IsD l v w' := by
  obtain ⟨A, c, h1, h2, h3⟩ := h
  exact ⟨A, c, h1, h2, h3.later hb⟩
theorem OwnN.isD {w : World} {base : Nat} {s : Value} {l : List Nd} (h : OwnN w base s l) : IsD l (.agg #[s]) w := by
  obtain ⟨_, ⟨hv, hn⟩ | ⟨g, cap, cur, hv, hb, hg, hc, hm, hs, ht⟩⟩ := h
  · have : l = [] := List.length_eq_zero_iff.1 hn
    subst this
    exact ⟨none, 0, Nat.le_refl _, by rw [hv]; rfl, NRow.nil _ _⟩
  · obtain ⟨A, c, h1, h2⟩ := OwnN.row (w := w) (base := base) (v := s) (l := l) ⟨by assumption, .inr ⟨g, cap, cur, hv, hb, hg, hc, hm, hs, ht⟩⟩
    rw [hv] at h1
    cases h1
    exact ⟨_, cap, hc, by rw [hv], h2⟩
def DPost (w : World) (l : List Nd) (e : Ending) (w' : World) : Prop := ∃ s, e = .returned (.agg #[s]) ∧ OwnN w' w.heap.size s l ∧ Below w.heap.size w w'
theorem OwnN.setCell_ne {w : World} {base : Nat} {s : Value} {l : List Nd} (h : OwnN w base s l) {a : Addr} (ha : a.block < base) (v : Value) : OwnN (w.setCell a v) base s l := by
  obtain ⟨h0, ⟨hv, hn⟩ | ⟨g, cap, cur, hv, hb, hg, hr⟩⟩ := h
  · exact ⟨h0, .inl ⟨hv, hn⟩⟩
  · refine ⟨h0, .inr ⟨g, cap, cur, hv, hb, ?_, hr⟩⟩
    have : Blk w g cur 43 := hg
    exact this.setCell_ne (a := a) (by omega) v
theorem OwnN.weaken {w : World} {base base' : Nat} {s : Value} {l : List Nd} (h : OwnN w base s l) (hb : base' ≤ base) : OwnN w base' s l := by
  obtain ⟨h0, ⟨hv, hn⟩ | ⟨g, cap, cur, hv, hbg, hr⟩⟩ := h
  · exact ⟨h0, .inl ⟨hv, hn⟩⟩
  · exact ⟨h0, .inr ⟨g, cap, cur, hv, Nat.le_trans hb hbg, hr⟩⟩
theorem NRow.part {w : World} {b o : Nat} {l : List Nd} (h : NRow w (some ⟨b, o, none⟩) l) {f k : Nat} (hk : f + k ≤ l.length) : NRow w (some ⟨b, o + f * 10, none⟩) (seg l f k) := fun i hi => by
  rw [seg_length hk] at hi
  obtain ⟨b', o', h1, h2, h3⟩ := h (f + i) (by omega)
  cases h1
  refine ⟨b, o + f * 10, rfl, h2, fun j hj => ?_⟩
  have := h3 j hj
  rw [show (seg l f k).getD i nd0 = l.getD (f + i) nd0 from seg_at hi]
  rw [← this]; congr 2; omega
theorem wrap_in {x : Int} (h1 : -9223372036854775808 ≤ x) (h2 : x ≤ 9223372036854775807) : IntKind.i64.wrap x = x := IntWalk.i64_in _ (by omega)
theorem okN.mvOk {l : List Nd} {i : Nat} (h : okN l i (atN l i)) (hi : i < 1073741824) (ht : (atN l i).text.length ≤ 281474976710656) {d : Int} (h1 : -1073741824 ≤ d) (h2 : d ≤ 1073741824) : MvOk d (atN l i) := by
  have hle := firstP_le l (i - 1)
  refine ⟨ht, fun hp => ?_, fun hk => ?_⟩
  · cases h.cs rfl with
    | leaf hk hf => unfold leafK at hk; unfold partK at hp; omega
    | one hk hi ha => exact wrap_in (by omega) (by omega)
    | two hk hi hb ha => exact wrap_in (by omega) (by omega)
  · cases h.cs rfl with
    | leaf hk2 hf => unfold leafK at hk2; omega
    | one hk2 hi ha => omega
    | two hk hi hb ha => exact wrap_in (by omega) (by omega)
theorem mem_seg {l : List Nd} {f k : Nat} (hk : f + k ≤ l.length) {n : Nd} (h : n ∈ seg l f k) : ∃ j, f ≤ j ∧ j < f + k ∧ n = atN l j := by
  obtain ⟨i, hi, e⟩ := List.mem_iff_getElem.1 h
  rw [seg_length hk] at hi
  refine ⟨f + i, by omega, by omega, ?_⟩
  rw [← seg_at (l := l) (f := f) hi, ← e]
  unfold atN
  rw [List.getD_eq_getElem?_getD, List.getElem?_eq_getElem (by rw [seg_length hk]; exact hi)]; rfl
theorem txt_at {l : List Nd} (h : Txt l) (j : Nat) : (atN l j).text.length ≤ 281474976710656 := by
  unfold atN
  rw [List.getD_eq_getElem?_getD]
  cases hj : l[j]? with
  | none => simp [nd0]
  | some n => exact h n (List.mem_of_getElem? hj)
structure SbS (w0 : World) (A : Option Addr) (l : List Nd) (c : Nat) (w : World) : Prop where
  fst : FstS w0 A l c w
  res : Blk w (w0.heap.size + 1) #[.slice none 0 0] 24
theorem SbS.later {w0 w w' : World} {A : Option Addr} {l : List Nd} {c : Nat} (h : SbS w0 A l c w) (hb : Below w.heap.size w w') : SbS w0 A l c w' := ⟨h.fst.later hb, h.res.later hb⟩
theorem SbS.new (w : World) (A : Option Addr) (l : List Nd) (c : Nat) (h : NRow w A l) : SbS w A l c ((w.alloc (.cells #[.slice A l.length c] 24)).alloc (.cells #[.slice none 0 0] 24)) := by
  have HB := ((Below.refl w.heap.size w).alloc (Nat.le_refl _) (.cells #[.slice A l.length c] 24)).alloc (by simp) (.cells #[.slice none 0 0] 24)
  refine ⟨⟨HB, h.later HB, (Blk.new w _ _).alloc _⟩, ?_⟩
  have := Blk.new (w.alloc (.cells #[.slice A l.length c] 24)) #[.slice none 0 0] 24
  simpa using this
end Go.Proofs.YtpbadglfegcdjaaGreatDoor
/- Descriptions out of tokens: the plain mathematics of the parser. -/
namespace Go.Proofs.YtpbadglfegcdjaaGreatDoor
open Go
set_option linter.unusedVariables false
set_option linter.unusedSimpArgs false

/-- A token whose numbers may be any. -/
structure Tk where
  kind : Int
  at_ : Int := 0
  lo : Int := 0
  hi : Int := 0
  cls : BitVec 256 := 0#256
  text : List UInt8 := []
deriving DecidableEq
def tkEnd : Tk := { kind := 10 }
def tkAt (l : List Tk) (p : Nat) : Tk := l.getD p tkEnd
/-- What the parser holds. -/
structure PS where
  read : Nat := 0
  opn : List Int := []
  nodes : List Nd := []
  ats : List Int := []
  count : Nat := 0
inductive PR where
  | ok (k : Int) (s : PS)
  | bad (e : Int) (p : Int)
  | out
def PR.bind (r : PR) (f : Int → PS → PR) : PR := match r with
  | .ok k s => f k s
  | .bad e p => .bad e p
  | .out => .out
def PS.lay (s : PS) (n : Nd) (p : Int) : PS := if s.count < 4096 then { s with nodes := s.nodes ++ [n], ats := s.ats ++ [p], count := s.count + 1 } else { s with count := s.count + 1 }
def PS.next (s : PS) : PS := { s with read := s.read + 1 }
def begK (k : Int) : Bool := decide (k = 1) || decide (k = 2) || decide (k = 3) || decide (k = 8) || decide (k = 9)
/-- The fault that the token to be read is. -/
def faultP (l : List Tk) (s : PS) : PR := match (tkAt l s.read).kind, s.opn.getLast? with
  | 10, some p => .bad 6 p
  | _, _ => .bad 7 (tkAt l s.read).at_
inductive Md where
  | or | orL (a : Int) | row | rowL (a : Int) | post | postL (a : Int) | atom | group | inside
def layK (s : PS) (n : Nd) (p : Int) : PR := .ok (s.count : Int) (s.lay n p)
def run (l : List Tk) : Nat → Md → PS → PR
  | 0, _, _ => .out
  | n + 1, .or, s => (run l n .row s).bind fun a s => run l n (.orL a) s
  | n + 1, .orL a, s => if (tkAt l s.read).kind = 5 then (run l n .row s.next).bind fun b s => run l n (.orL (s.count : Int)) (s.lay { kind := 5, a := a, b := b } (-1)) else .ok a s
  | n + 1, .row, s => (run l n .post s).bind fun a s => run l n (.rowL a) s
  | n + 1, .rowL a, s => if begK (tkAt l s.read).kind = true then (run l n .post s).bind fun b s => run l n (.rowL (s.count : Int)) (s.lay { kind := 4, a := a, b := b } (-1)) else .ok a s
  | n + 1, .post, s => (run l n .atom s).bind fun a s => run l n (.postL a) s
  | n + 1, .postL a, s =>
    if (tkAt l s.read).kind = 6 then run l n (.postL (s.count : Int)) (s.lay { kind := 6, a := a } (tkAt l s.read).at_).next
    else if (tkAt l s.read).kind = 7 then run l n (.postL (s.count : Int)) (s.lay { kind := 7, a := a, lo := (tkAt l s.read).lo, hi := (tkAt l s.read).hi } (tkAt l s.read).at_).next
    else .ok a s
  | n + 1, .atom, s =>
    if (tkAt l s.read).kind = 1 then layK s.next { kind := 2, cls := (tkAt l s.read).cls } (-1)
    else if (tkAt l s.read).kind = 2 then layK s.next { kind := 3, text := (tkAt l s.read).text } (-1)
    else if (tkAt l s.read).kind = 3 then run l n .group s
    else if (tkAt l s.read).kind = 8 then (run l n .group s.next).bind fun g s => layK s { kind := 8, a := g } (-1)
    else if (tkAt l s.read).kind = 9 then (run l n .group s.next).bind fun g s => layK s { kind := 9, a := g } (-1)
    else faultP l s
  | n + 1, .group, s =>
    if (tkAt l s.read).kind = 3 then
      if 64 < s.opn.length + 1 then .bad 8 (tkAt l s.read).at_
      else (run l n .inside { s.next with opn := s.opn ++ [(tkAt l s.read).at_] }).bind fun g s => if (tkAt l s.read).kind = 4 then .ok g { s.next with opn := s.opn.dropLast } else faultP l s
    else faultP l s
  | n + 1, .inside, s => if (tkAt l s.read).kind = 4 then layK s { kind := 1 } (-1) else run l n .or s
/-- The whole of it. -/
def parseP (l : List Tk) : PR := (run l (10 * l.length + 10) .or {}).bind fun k s =>
  if (tkAt l s.read).kind = 10 then (if 4096 < s.count then .bad 9 (tkAt l s.read).at_ else .ok k s.next) else faultP l s
/-- How much there is to do. -/
def rankM : Md → Nat
  | .or => 7 | .orL _ => 1 | .row => 6 | .rowL _ => 5 | .post => 4 | .postL _ => 1 | .atom => 3 | .group => 2 | .inside => 8
def fuelP (l : List Tk) (m : Md) (s : PS) : Nat := 10 * (l.length - s.read) + rankM m
theorem tk_in {l : List Tk} {p : Nat} (h : (tkAt l p).kind ≠ 10) : p < l.length := by
  rcases Nat.lt_or_ge p l.length with h2 | h2
  · exact h2
  · exfalso; apply h; unfold tkAt; rw [List.getD_eq_getElem?_getD, List.getElem?_eq_none h2]; rfl
theorem bind_ok {r : PR} {f : Int → PS → PR} {k : Int} {s : PS} (h : r.bind f = .ok k s) : ∃ k0 s0, r = .ok k0 s0 ∧ f k0 s0 = .ok k s := by
  cases r with
  | ok k0 s0 => exact ⟨k0, s0, rfl, h⟩
  | bad e p => cases h
  | out => cases h
theorem bind_out {r : PR} {f : Int → PS → PR} (h : r.bind f = .out) : r = .out ∨ ∃ k0 s0, r = .ok k0 s0 ∧ f k0 s0 = .out := by
  cases r with
  | ok k0 s0 => exact .inr ⟨k0, s0, rfl, h⟩
  | bad e p => cases h
  | out => exact .inl rfl
theorem bind_bad {r : PR} {f : Int → PS → PR} {e p : Int} (h : r.bind f = .bad e p) : r = .bad e p ∨ ∃ k0 s0, r = .ok k0 s0 ∧ f k0 s0 = .bad e p := by
  cases r with
  | ok k0 s0 => exact .inr ⟨k0, s0, rfl, h⟩
  | bad e p => exact .inl h
  | out => cases h
theorem lay_read (s : PS) (n : Nd) (p : Int) : (s.lay n p).read = s.read ∧ (s.lay n p).opn = s.opn ∧ (s.lay n p).count = s.count + 1 := by unfold PS.lay; split <;> exact ⟨rfl, rfl, rfl⟩
theorem fault_not_ok {l : List Tk} {s : PS} {k : Int} {t : PS} : faultP l s ≠ .ok k t := by unfold faultP; split <;> (intro h; cases h)
theorem fault_not_out {l : List Tk} {s : PS} : faultP l s ≠ .out := by unfold faultP; split <;> (intro h; cases h)
/-- Must at least one token be read? -/
def eats : Md → Nat
  | .or => 1 | .row => 1 | .post => 1 | .atom => 1 | .group => 1 | _ => 0
/-- What is read goes on, and what is open stays. -/
theorem run_read {l : List Tk} : ∀ (n : Nat) (m : Md) (s : PS) (k : Int) (t : PS), run l n m s = .ok k t → s.read + eats m ≤ t.read ∧ t.opn = s.opn ∧ s.count ≤ t.count
  | 0, _, _, _, _, h => by cases h
  | n + 1, .or, s, k, t, h => by
    obtain ⟨a, u, h1, h2⟩ := bind_ok h
    have q1 := run_read n _ _ _ _ h1
    have q2 := run_read n _ _ _ _ h2
    simp only [eats] at q1 q2 ⊢
    exact ⟨by omega, q2.2.1.trans q1.2.1, by omega⟩
  | n + 1, .orL a, s, k, t, h => by
    simp only [run] at h
    split at h
    · obtain ⟨b, u, h1, h2⟩ := bind_ok h
      have q1 := run_read n _ _ _ _ h1
      have q2 := run_read n _ _ _ _ h2
      have q3 := lay_read u { kind := 5, a := a, b := b } (-1)
      simp only [eats, PS.next] at q1 q2 ⊢
      exact ⟨by omega, by rw [q2.2.1, q3.2.1, q1.2.1], by omega⟩
    · cases h; exact ⟨Nat.le_refl _, rfl, Nat.le_refl _⟩
  | n + 1, .row, s, k, t, h => by
    obtain ⟨a, u, h1, h2⟩ := bind_ok h
    have q1 := run_read n _ _ _ _ h1
    have q2 := run_read n _ _ _ _ h2
    simp only [eats] at q1 q2 ⊢
    exact ⟨by omega, q2.2.1.trans q1.2.1, by omega⟩
  | n + 1, .rowL a, s, k, t, h => by
    simp only [run] at h
    split at h
    · obtain ⟨b, u, h1, h2⟩ := bind_ok h
      have q1 := run_read n _ _ _ _ h1
      have q2 := run_read n _ _ _ _ h2
      have q3 := lay_read u { kind := 4, a := a, b := b } (-1)
      simp only [eats] at q1 q2 ⊢
      exact ⟨by omega, by rw [q2.2.1, q3.2.1, q1.2.1], by omega⟩
    · cases h; exact ⟨Nat.le_refl _, rfl, Nat.le_refl _⟩
  | n + 1, .post, s, k, t, h => by
    obtain ⟨a, u, h1, h2⟩ := bind_ok h
    have q1 := run_read n _ _ _ _ h1
    have q2 := run_read n _ _ _ _ h2
    simp only [eats] at q1 q2 ⊢
    exact ⟨by omega, q2.2.1.trans q1.2.1, by omega⟩
  | n + 1, .postL a, s, k, t, h => by
    simp only [run] at h
    split at h
    · have q2 := run_read n _ _ _ _ h
      have q3 := lay_read s { kind := 6, a := a } (tkAt l s.read).at_
      simp only [eats, PS.next] at q2 ⊢
      exact ⟨by omega, by rw [q2.2.1, q3.2.1], by omega⟩
    · split at h
      · have q2 := run_read n _ _ _ _ h
        have q3 := lay_read s { kind := 7, a := a, lo := (tkAt l s.read).lo, hi := (tkAt l s.read).hi } (tkAt l s.read).at_
        simp only [eats, PS.next] at q2 ⊢
        exact ⟨by omega, by rw [q2.2.1, q3.2.1], by omega⟩
      · cases h; exact ⟨Nat.le_refl _, rfl, Nat.le_refl _⟩
  | n + 1, .atom, s, k, t, h => by
    simp only [run] at h
    split at h
    · cases h
      have q3 := lay_read s.next { kind := 2, cls := (tkAt l s.read).cls } (-1)
      simp only [eats, PS.next] at q3 ⊢
      exact ⟨by omega, q3.2.1, by omega⟩
    · split at h
      · cases h
        have q3 := lay_read s.next { kind := 3, text := (tkAt l s.read).text } (-1)
        simp only [eats, PS.next] at q3 ⊢
        exact ⟨by omega, q3.2.1, by omega⟩
      · split at h
        · have q2 := run_read n _ _ _ _ h
          simp only [eats] at q2 ⊢
          exact q2
        · split at h
          · obtain ⟨b, u, h1, h2⟩ := bind_ok h
            cases h2
            have q1 := run_read n _ _ _ _ h1
            have q3 := lay_read u { kind := 8, a := b } (-1)
            simp only [eats, PS.next] at q1 ⊢
            exact ⟨by omega, by rw [q3.2.1, q1.2.1], by omega⟩
          · split at h
            · obtain ⟨b, u, h1, h2⟩ := bind_ok h
              cases h2
              have q1 := run_read n _ _ _ _ h1
              have q3 := lay_read u { kind := 9, a := b } (-1)
              simp only [eats, PS.next] at q1 ⊢
              exact ⟨by omega, by rw [q3.2.1, q1.2.1], by omega⟩
            · exact absurd h fault_not_ok
  | n + 1, .group, s, k, t, h => by
    simp only [run] at h
    split at h
    · split at h
      · cases h
      · obtain ⟨b, u, h1, h2⟩ := bind_ok h
        have q1 := run_read n _ _ _ _ h1
        split at h2
        · cases h2
          simp only [eats, PS.next] at q1 ⊢
          refine ⟨by omega, ?_, by omega⟩
          rw [q1.2.1]; simp
        · exact absurd h2 fault_not_ok
    · exact absurd h fault_not_ok
  | n + 1, .inside, s, k, t, h => by
    simp only [run] at h
    split at h
    · cases h
      have q3 := lay_read s { kind := 1 } (-1)
      simp only [eats]
      exact ⟨by omega, q3.2.1, by omega⟩
    · have q2 := run_read n _ _ _ _ h
      simp only [eats] at q2 ⊢
      exact ⟨by omega, q2.2⟩
/-- Enough is enough. -/
theorem run_fuel {l : List Tk} : ∀ (n : Nat) (m : Md) (s : PS), fuelP l m s ≤ n → run l n m s ≠ .out
  | 0, m, s, h, _ => by unfold fuelP rankM at h; cases m <;> simp at h
  | n + 1, .or, s, h, ho => by
    simp only [fuelP, rankM] at h
    rcases bind_out ho with h1 | ⟨a, u, h1, h2⟩
    · exact run_fuel n .row s (by simp only [fuelP, rankM]; omega) h1
    · have q := run_read n _ _ _ _ h1
      simp only [eats] at q
      exact run_fuel n (.orL a) u (by simp only [fuelP, rankM]; omega) h2
  | n + 1, .orL a, s, h, ho => by
    simp only [fuelP, rankM] at h
    simp only [run] at ho
    split at ho
    · rename_i hk
      have hin := tk_in (l := l) (p := s.read) (by rw [hk]; decide)
      rcases bind_out ho with h1 | ⟨b, u, h1, h2⟩
      · exact run_fuel n .row s.next (by simp only [fuelP, rankM, PS.next]; omega) h1
      · have q := run_read n _ _ _ _ h1
        have q3 := lay_read u { kind := 5, a := a, b := b } (-1)
        simp only [eats, PS.next] at q
        exact run_fuel n (.orL _) _ (by simp only [fuelP, rankM]; omega) h2
    · cases ho
  | n + 1, .row, s, h, ho => by
    simp only [fuelP, rankM] at h
    rcases bind_out ho with h1 | ⟨a, u, h1, h2⟩
    · exact run_fuel n .post s (by simp only [fuelP, rankM]; omega) h1
    · have q := run_read n _ _ _ _ h1
      simp only [eats] at q
      exact run_fuel n (.rowL a) u (by simp only [fuelP, rankM]; omega) h2
  | n + 1, .rowL a, s, h, ho => by
    simp only [fuelP, rankM] at h
    simp only [run] at ho
    split at ho
    · rename_i hk
      have hin := tk_in (l := l) (p := s.read) (by intro e; rw [e] at hk; revert hk; decide)
      rcases bind_out ho with h1 | ⟨b, u, h1, h2⟩
      · exact run_fuel n .post s (by simp only [fuelP, rankM]; omega) h1
      · have q := run_read n _ _ _ _ h1
        have q3 := lay_read u { kind := 4, a := a, b := b } (-1)
        simp only [eats] at q
        exact run_fuel n (.rowL _) _ (by simp only [fuelP, rankM]; omega) h2
    · cases ho
  | n + 1, .post, s, h, ho => by
    simp only [fuelP, rankM] at h
    rcases bind_out ho with h1 | ⟨a, u, h1, h2⟩
    · exact run_fuel n .atom s (by simp only [fuelP, rankM]; omega) h1
    · have q := run_read n _ _ _ _ h1
      simp only [eats] at q
      exact run_fuel n (.postL a) u (by simp only [fuelP, rankM]; omega) h2
  | n + 1, .postL a, s, h, ho => by
    simp only [fuelP, rankM] at h
    simp only [run] at ho
    split at ho
    · rename_i hk
      have hin := tk_in (l := l) (p := s.read) (by rw [hk]; decide)
      have q3 := lay_read s { kind := 6, a := a } (tkAt l s.read).at_
      exact run_fuel n (.postL _) _ (by simp only [fuelP, rankM, PS.next]; omega) ho
    · split at ho
      · rename_i hk
        have hin := tk_in (l := l) (p := s.read) (by rw [hk]; decide)
        have q3 := lay_read s { kind := 7, a := a, lo := (tkAt l s.read).lo, hi := (tkAt l s.read).hi } (tkAt l s.read).at_
        exact run_fuel n (.postL _) _ (by simp only [fuelP, rankM, PS.next]; omega) ho
      · cases ho
  | n + 1, .atom, s, h, ho => by
    simp only [fuelP, rankM] at h
    simp only [run] at ho
    split at ho
    · cases ho
    · split at ho
      · cases ho
      · split at ho
        · exact run_fuel n .group s (by simp only [fuelP, rankM]; omega) ho
        · split at ho
          · rename_i hk
            have hin := tk_in (l := l) (p := s.read) (by rw [hk]; decide)
            rcases bind_out ho with h1 | ⟨b, u, h1, h2⟩
            · exact run_fuel n .group s.next (by simp only [fuelP, rankM, PS.next]; omega) h1
            · cases h2
          · split at ho
            · rename_i hk
              have hin := tk_in (l := l) (p := s.read) (by rw [hk]; decide)
              rcases bind_out ho with h1 | ⟨b, u, h1, h2⟩
              · exact run_fuel n .group s.next (by simp only [fuelP, rankM, PS.next]; omega) h1
              · cases h2
            · exact fault_not_out ho
  | n + 1, .group, s, h, ho => by
    simp only [fuelP, rankM] at h
    simp only [run] at ho
    split at ho
    · rename_i hk
      have hin := tk_in (l := l) (p := s.read) (by rw [hk]; decide)
      split at ho
      · cases ho
      · rcases bind_out ho with h1 | ⟨b, u, h1, h2⟩
        · exact run_fuel n .inside _ (by simp only [fuelP, rankM, PS.next]; omega) h1
        · split at h2
          · cases h2
          · exact fault_not_out h2
    · exact fault_not_out ho
  | n + 1, .inside, s, h, ho => by
    simp only [fuelP, rankM] at h
    simp only [run] at ho
    split at ho
    · cases ho
    · exact run_fuel n .or s (by simp only [fuelP, rankM]; omega) ho
/-- More is the same. -/
theorem run_more {l : List Tk} : ∀ (n : Nat) (m : Md) (s : PS), run l n m s ≠ .out → run l (n + 1) m s = run l n m s
  | 0, m, s, h => absurd rfl h
  | n + 1, m, s, h => by
    have B : ∀ {m1 : Md} {s1 : PS} {f g : Int → PS → PR}, (run l n m1 s1).bind f ≠ .out → (∀ k t, f k t ≠ .out → g k t = f k t) → (run l (n + 1) m1 s1).bind g = (run l n m1 s1).bind f := by
      intro m1 s1 f g h hfg
      have h1 : run l n m1 s1 ≠ .out := fun e => h (by rw [e]; rfl)
      rw [run_more n m1 s1 h1]
      cases hr : run l n m1 s1 with
      | ok k t => rw [hr] at h; exact hfg k t h
      | bad e p => rfl
      | out => rfl
    cases m with
    | or => exact B h fun k t ht => run_more n _ _ ht
    | orL a =>
      simp only [run] at h ⊢
      split
      · rename_i hk; rw [if_pos hk] at h; exact B h fun k t ht => run_more n _ _ ht
      · rfl
    | row => exact B h fun k t ht => run_more n _ _ ht
    | rowL a =>
      simp only [run] at h ⊢
      split
      · rename_i hk; rw [if_pos hk] at h; exact B h fun k t ht => run_more n _ _ ht
      · rfl
    | post => exact B h fun k t ht => run_more n _ _ ht
    | postL a =>
      simp only [run] at h ⊢
      split
      · rename_i hk; rw [if_pos hk] at h; exact run_more n _ _ h
      · rename_i hk; rw [if_neg hk] at h
        split
        · rename_i hk2; rw [if_pos hk2] at h; exact run_more n _ _ h
        · rfl
    | atom =>
      simp only [run] at h ⊢
      split
      · rfl
      · rename_i hk; rw [if_neg hk] at h
        split
        · rfl
        · rename_i hk2; rw [if_neg hk2] at h
          split
          · rename_i hk3; rw [if_pos hk3] at h; have := run_more n _ _ h; simp only [run] at this; rw [if_pos hk3] at this; exact this
          · rename_i hk3; rw [if_neg hk3] at h
            split
            · rename_i hk4; rw [if_pos hk4] at h; exact B h fun k t ht => rfl
            · rename_i hk4; rw [if_neg hk4] at h
              split
              · rename_i hk5; rw [if_pos hk5] at h; exact B h fun k t ht => rfl
              · rfl
    | group =>
      simp only [run] at h ⊢
      split
      · rename_i hk; rw [if_pos hk] at h
        split
        · rfl
        · rename_i hk2; rw [if_neg hk2] at h; exact B h fun k t ht => rfl
      · rfl
    | inside =>
      simp only [run] at h ⊢
      split
      · rfl
      · rename_i hk; rw [if_neg hk] at h; exact run_more n _ _ h
end Go.Proofs.YtpbadglfegcdjaaGreatDoor
/- Rows of tokens in memory, whose numbers may be any. -/
namespace Go.Proofs.YtpbadglfegcdjaaGreatDoor
open Go Go.RowKit
set_option linter.unusedVariables false

def tkC (t : Tk) : Array Value := #[.int .i64 t.kind, .int .i64 t.at_, .int .u64 (wd t.cls 0), .int .u64 (wd t.cls 1), .int .u64 (wd t.cls 2), .int .u64 (wd t.cls 3), .string (bs t.text), .int .i64 t.lo, .int .i64 t.hi]
/-- A token that lex answers. -/
def Tok.tk (t : Tok) : Tk := { kind := (t.kind : Int), at_ := (t.at_ : Int), lo := (t.lo : Int), hi := (t.hi : Int), cls := t.cls, text := t.text }
theorem tk_tok (t : Tok) : tkC t.tk = tokC t := rfl
def flatK : List Tk → List Value
  | [] => []
  | t :: l => (tkC t).toList ++ flatK l
theorem tkC_size (t : Tk) : (tkC t).toList.length = 9 := rfl
theorem flatK_length : ∀ l, (flatK l).length = l.length * 9
  | [] => rfl
  | s :: l => by simp only [flatK, List.length_append, tkC_size, List.length_cons, flatK_length l]; omega
theorem flatK_append : ∀ l m, flatK (l ++ m) = flatK l ++ flatK m
  | [], _ => rfl
  | s :: l, m => by simp only [List.cons_append, flatK, flatK_append l m, List.append_assoc]
theorem flatK_get : ∀ (l : List Tk) (i j : Nat), i < l.length → j < 9 → (flatK l)[i * 9 + j]? = (tkC (l.getD i tkEnd))[j]?
  | [], i, j, hi, _ => by simp at hi
  | s :: l, 0, j, _, hj => by
    show ((tkC s).toList ++ flatK l)[0 * 9 + j]? = _
    rw [Nat.zero_mul, Nat.zero_add, List.getElem?_append_left (by rw [tkC_size]; exact hj)]; simp
  | s :: l, i + 1, j, hi, hj => by
    have ih := flatK_get l i j (by simpa using hi) hj
    show ((tkC s).toList ++ flatK l)[(i + 1) * 9 + j]? = _
    rw [List.getElem?_append_right (by rw [tkC_size]; omega), tkC_size, show (i + 1) * 9 + j - 9 = i * 9 + j by omega, ih]
    simp
/-- A row of tokens that is read. -/
def TkRow (w : World) (a : Option Addr) (l : List Tk) : Prop :=
  ∀ i, i < l.length → ∃ b off, a = some ⟨b, off, none⟩ ∧ b < w.heap.size ∧ ∀ j, j < 9 → w.cell? ⟨b, off + i * 9 + j, none⟩ = (tkC (l.getD i tkEnd))[j]?
theorem TkRow.later {w w' : World} {a : Option Addr} {l : List Tk} (h : TkRow w a l) (hb : Below w.heap.size w w') : TkRow w' a l := fun i hi => by
  obtain ⟨b, off, ha, hlt, hc⟩ := h i hi
  exact ⟨b, off, ha, Nat.lt_of_lt_of_le hlt hb.size, fun j hj => (hb.cell (p := ⟨b, off + i * 9 + j, none⟩) hlt).trans (hc j hj)⟩
theorem TkRow.nil (w : World) (a : Option Addr) : TkRow w a [] := fun i hi => by simp at hi
/-- A row of tokens that a call owns. -/
def OwnK (w : World) (base : Nat) (v : Value) (l : List Tk) : Prop := w.ownsRow base 55 9 v l.length (flatK l)
theorem OwnK.nil (w : World) (base : Nat) : OwnK w base (.slice none 0 0) [] := ⟨rfl, .inl ⟨rfl, rfl⟩⟩
theorem OwnK.later {w w' : World} {base : Nat} {v : Value} {l : List Tk} (h : OwnK w base v l) (hb : Below w.heap.size w w') : OwnK w' base v l := ownsRow_later h hb
theorem OwnK.row {w : World} {base : Nat} {v : Value} {l : List Tk} (h : OwnK w base v l) : ∃ a cap, v = .slice a l.length cap ∧ TkRow w a l := by
  obtain ⟨_, ⟨hv, hn⟩ | ⟨g, cap, cur, hv, hb, hg, hc, hm, hs, ht⟩⟩ := h
  · have : l = [] := List.length_eq_zero_iff.1 hn
    subst this
    exact ⟨none, 0, hv, TkRow.nil _ _⟩
  · refine ⟨_, cap, hv, fun i hi => ⟨g, 0, rfl, Blk.lt (w := w) (b := g) (vs := cur) (t := 55) hg, fun j hj => ?_⟩⟩
    have hc2 := Blk.cell (w := w) (b := g) (vs := cur) (t := 55) hg (i * 9 + j)
    rw [Nat.zero_add, hc2, ← flatK_get l i j hi hj, ← ht, List.getElem?_take, if_pos (by omega)]
    simp
/-- An append to a row of its own. -/
theorem wp_append_tk {w : World} {o : Oper} {a : Act} {K : Act → World → Prop} {Q : Exit → Act → World → Prop} (s x : Operand)
    (ho : o.op = .call { callee := .builtin .append, args := #[s, x], argTypes := #[27, 27] })
    (base : Nat) (v : Value) (l : List Tk) (hs : a.eval s = v) (hown : OwnK w base v l)
    (b : Nat) (t : Tk) (hx : a.eval x = .slice (some ⟨b, 0, none⟩) 1 1) (hnew : Blk w b (tkC t) 55) (hlen : l.length < 1073741824) (hbase : base ≤ w.heap.size)
    (h : ∀ v' w', OwnK w' base v' (l ++ [t]) → (∀ B, B ≤ base → Below B w w') → K (a.put o.dst v') w') : o.wp Tryz.prog a w K Q := by
  obtain ⟨ib, hib, hz0, hz1, hz2⟩ := info_parts infoTok
  have hf1 : flatK [t] = (tkC t).toList := by simp [flatK]
  have hnews : ∀ (j : Nat) (u : Value), (flatK [t])[j]? = some u → w.cell? ((⟨b, 0, none⟩ : Addr).add j) = some u := by
    intro j u hu
    have hadd : (⟨b, 0, none⟩ : Addr).add j = ⟨b, j, none⟩ := by unfold Addr.add; split <;> simp_all
    rw [hf1] at hu
    rw [hadd, hnew.cell, ← hu]; simp
  have hone : ∀ u ∈ flatK [t], u.oneCell' = true := by
    intro u hu
    rw [hf1] at hu
    simp only [tkC, List.mem_cons, List.not_mem_nil, or_false] at hu
    rcases hu with rfl | rfl | rfl | rfl | rfl | rfl | rfl | rfl | rfl <;> rfl
  obtain ⟨v', w', hr, h2, h3, _⟩ := run_append_own (P := Tryz.prog) w base 27 o.type 55 ib _ 9 80 Tryz.underlying27 hib hz0 hz1 hz2 rfl (by decide) v l.length (flatK l) hown ⟨b, 0, none⟩ 1 1 (flatK [t]) rfl hnews hone (by unfold maxLen; omega) (by omega) hbase
  have h2' : OwnK w' base v' (l ++ [t]) := by unfold OwnK; rw [List.length_append, flatK_append]; exact h2
  unfold Oper.wp execOp
  simp only [ho, resolve, invoke, builtin, Sem.run_bind, Sem.run_pure, Result.andThen_ok, List.map_toArray, List.map_cons, List.map_nil, hs, hx, hr]
  exact h v' w' h2' fun B hB => (Below.refl B w).grown h3 (Nat.le_trans hB hbase) fun k hk => Nat.le_trans hB ((World.ownsRow.lt hown k hk).1)
theorem wpList_append_tk {w : World} {ops : Array Oper} {rest : List Oper} {o : Oper} {a : Act} {Q : Exit → Act → World → Prop} (hgd : o.guard = none) (s x : Operand)
    (ho : o.op = .call { callee := .builtin .append, args := #[s, x], argTypes := #[27, 27] })
    (base : Nat) (v : Value) (l : List Tk) (hs : a.eval s = v) (hown : OwnK w base v l)
    (b : Nat) (t : Tk) (hx : a.eval x = .slice (some ⟨b, 0, none⟩) 1 1) (hnew : Blk w b (tkC t) 55) (hlen : l.length < 1073741824) (hbase : base ≤ w.heap.size)
    (h : ∀ v' w', OwnK w' base v' (l ++ [t]) → (∀ B, B ≤ base → Below B w w') → wpList Tryz.prog ops Q rest (a.put o.dst v') w') : wpList Tryz.prog ops Q (o :: rest) a w :=
  wpList_plain hgd fun K hK => wp_append_tk s x ho base v l hs hown b t hx hnew hlen hbase fun v' w' h1 h2 => hK _ _ (h v' w' h1 h2)
theorem TRow.tk {w : World} {a : Option Addr} {l : List Tok} (h : TRow w a l) : TkRow w a (l.map Tok.tk) := fun i hi => by
  rw [List.length_map] at hi
  obtain ⟨b, off, ha, hlt, hc⟩ := h i hi
  refine ⟨b, off, ha, hlt, fun j hj => (hc j hj).trans ?_⟩
  have : (l.map Tok.tk).getD i tkEnd = (l.getD i tok0).tk := by simp [hi]
  rw [this, tk_tok]
theorem tk_zero : tkC tkEnd = #[.int .i64 10, .int .i64 0, .int .u64 0, .int .u64 0, .int .u64 0, .int .u64 0, .string ⟨#[]⟩, .int .i64 0, .int .i64 0] := by kernel_rfl
end Go.Proofs.YtpbadglfegcdjaaGreatDoor
