/- Nodes laid where there is room: walked. -/
import Derived.Test.YtgehepiphdphjaaDoorNodeFormed
import Derived.Test.YtgehepiphdphjaaDoorStableG
import Derived.OwnWalk
namespace Go.Proofs.YtgehepiphdphjaaDoor
open Go Go.RowKit
set_option linter.unusedVariables false
set_option linter.unusedSimpArgs false

theorem wpList_append_nd_fits {w : World} {ops : Array Oper} {rest : List Oper} {o : Oper} {a : Act} {Q : Exit → Act → World → Prop} (hgd : o.guard = none) (s x : Operand)
    (ho : o.op = .call { callee := .builtin .append, args := #[s, x], argTypes := #[47, 47] })
    (base g cap : Nat) (l : List Nd) (hs : a.eval s = .slice (some ⟨g, 0, none⟩) l.length cap) (hown : OwnN w base (.slice (some ⟨g, 0, none⟩) l.length cap) l)
    (b : Nat) (t : Nd) (hx : a.eval x = .slice (some ⟨b, 0, none⟩) 1 1) (hnew : Blk w b (ndC t) 59) (hroom : l.length + 1 ≤ cap)
    (h : ∀ w', OwnN w' base (.slice (some ⟨g, 0, none⟩) (l ++ [t]).length cap) (l ++ [t]) → w.grownBy w' (some g) → wpList Tryd.prog ops Q rest (a.put o.dst (.slice (some ⟨g, 0, none⟩) (l.length + 1) cap)) w') : wpList Tryd.prog ops Q (o :: rest) a w := by
  obtain ⟨ib, hib, hz0, hz1, hz2⟩ := info_parts infoNd
  have hf1 : flat10 [t] = (ndC t).toList := by simp [flat10]
  have hnews : ∀ (j : Nat) (u : Value), (flat10 [t])[j]? = some u → w.cell? ((⟨b, 0, none⟩ : Addr).add j) = some u := by
    intro j u hu
    have hadd : (⟨b, 0, none⟩ : Addr).add j = ⟨b, j, none⟩ := by unfold Addr.add; split <;> simp_all
    rw [hf1] at hu
    rw [hadd, hnew.cell, ← hu]; simp
  have hone : ∀ u ∈ flat10 [t], u.oneCell' = true := by
    intro u hu
    rw [hf1] at hu
    simp only [ndC, List.mem_cons, List.not_mem_nil, or_false] at hu
    rcases hu with rfl | rfl | rfl | rfl | rfl | rfl | rfl | rfl | rfl | rfl <;> rfl
  refine wpList_append_fits w hgd s x 47 ho base 59 ib 10 Tryd.underlying47 hib hz1 g l.length cap (flat10 l) hs hown ⟨b, 0, none⟩ 1 1 (flat10 [t]) hx rfl hnews hone hroom fun w' h2 h3 => h w' ?_ h3
  unfold OwnN
  rw [List.length_append, flat10_append]; exact h2
theorem gb_of {ro : Option Nat} {w w' : World} (h : Below w.heap.size w w') : w.grownBy w' ro := ⟨h.os, h.tape, h.output, h.size, fun k hk _ => h.block k hk⟩
structure LaidF (w0 : World) (g cap : Nat) (A : Option Addr) (m L : List Nd) (w : World) : Prop where
  gb : w0.grownBy w (some g)
  own : OwnN w g (.slice (some ⟨g, 0, none⟩) L.length cap) L
  row : NRow w A m
theorem OwnN.gb {w w' : World} {base g cap : Nat} {L : List Nd} (h : OwnN w base (.slice (some ⟨g, 0, none⟩) L.length cap) L) (hb : Below w.heap.size w w') : OwnN w' base (.slice (some ⟨g, 0, none⟩) L.length cap) L := h.later hb
theorem gb_trans {a b c : World} {ro : Option Nat} (h : a.grownBy b ro) (k : b.grownBy c ro) : a.grownBy c ro :=
  ⟨k.os.trans h.os, k.tape.trans h.tape, k.output.trans h.output, Nat.le_trans h.size k.size, fun j hj hne => (k.block j (Nat.lt_of_lt_of_le hj h.size) hne).trans (h.block j hj hne)⟩
theorem LaidF.later {w0 w w' : World} {g cap : Nat} {A : Option Addr} {m L : List Nd} (h : LaidF w0 g cap A m L w) (hb : Below w.heap.size w w') : LaidF w0 g cap A m L w' :=
  ⟨gb_trans h.gb (gb_of hb), h.own.later hb, h.row.later hb⟩
theorem NRow.gb {w w' : World} {a : Option Addr} {l : List Nd} {g : Nat} (h : NRow w a l) (ha : ∀ b o, a = some ⟨b, o, none⟩ → b ≠ g) (hb : w.grownBy w' (some g)) : NRow w' a l := fun i hi => by
  obtain ⟨b, off, h1, hlt, hc⟩ := h i hi
  exact ⟨b, off, h1, Nat.lt_of_lt_of_le hlt hb.size, fun j hj => (World.cell?_of_block (a := ⟨b, off + i * 10 + j, none⟩) (hb.block b hlt (fun e => ha b off h1 (Option.some.inj e)))).trans (hc j hj)⟩
def LaidFL (w0 : World) (g cap : Nat) (A : Option Addr) (l0 m : List Nd) (d : Int) (lst i : Value) (w : World) : Prop :=
  ∃ k : Nat, k ≤ m.length ∧ i = .int .i64 (k : Int) ∧ lst = .slice (some ⟨g, 0, none⟩) (l0.length + k) cap ∧ LaidF w0 g cap A m (l0 ++ (m.take k).map (mvN d)) w
def LaidFPost (w0 : World) (g cap : Nat) (L : List Nd) (e : Ending) (w' : World) : Prop := e = .returned (.slice (some ⟨g, 0, none⟩) L.length cap) ∧ OwnN w' g (.slice (some ⟨g, 0, none⟩) L.length cap) L ∧ w0.grownBy w' (some g)
set_option maxHeartbeats 8000000 in
set_option maxRecDepth 100000 in
theorem laid_fits (l0 m : List Nd) (d : Int) (g cap : Nat) (A : Option Addr) (c : Nat) (w : World) (hown : OwnN w g (.slice (some ⟨g, 0, none⟩) l0.length cap) l0) (hrow : NRow w A m)
    (hA : ∀ b o, A = some ⟨b, o, none⟩ → b ≠ g) (hroom : l0.length + m.length ≤ cap) (hlen : l0.length + m.length < 1073741824) (hok : ∀ n ∈ m, MvOk d n) :
    Calls Tryd.prog 55 #[.slice (some ⟨g, 0, none⟩) l0.length cap, .slice A m.length c, .int .i64 d] w (LaidFPost w g cap (l0 ++ m.map (mvN d))) := by
  have HS0 : Hid (LaidF w g cap A m l0 w) := ⟨(⟨rfl, rfl, rfl, Nat.le_refl _, fun _ _ _ => rfl⟩ : World.grownBy _ _ _), hown, hrow⟩
  have HA := Lib.hid hA
  have HOK := Lib.hid hok
  clear hown hrow hA hok
  go_enter Tryd.func55, Tryd.ntmps55
  go_wp2
  go_loopw [0, 11] (LaidFL w g cap A l0 m d) (fun _ i _ => m.length - (intOf i).toNat)
  case atStart => exact ⟨0, Nat.zero_le _, rfl, rfl, by simpa using HS0.out⟩
  case round =>
    obtain ⟨k, hk, rfl, rfl, hs⟩ := hrel
    have HS := Lib.hid hs
    by_cases hlt : k < m.length
    · have hltz : (k : Int) < (m.length : Int) := by omega
      obtain ⟨ba, oa, rfl, -, -⟩ := hs.row k hlt
      have g' : At10 wr ba (oa + k * 10) (m.getD k nd0) := hs.row.at hlt rfl
      have HN : Hid ((m.take (k + 1)).map (mvN d) = (m.take k).map (mvN d) ++ [mvN d (m.getD k nd0)]) := by
        unfold Hid
        rw [List.take_succ_eq_append_getElem hlt, List.map_append, List.getD_eq_getElem?_getD, List.getElem?_eq_getElem hlt]; rfl
      have HM := Lib.hid (HOK.out (m.getD k nd0) (by rw [List.getD_eq_getElem?_getD, List.getElem?_eq_getElem hlt]; exact List.getElem_mem _))
      have HL : Hid ((l0 ++ (m.take k).map (mvN d)).length = l0.length + k) := by unfold Hid; rw [List.length_append, List.length_map, List.length_take]; omega
      generalize (m.take k).map (mvN d) = L at *
      generalize m.getD k nd0 = n at *
      clear hs
      unfold At10 at g'
      obtain ⟨g0, g1, g2, g3, g4, g5, g6, g7, g8, g9⟩ := g'
      go_upto_region 4 with (fail)
      have HS2 := Lib.hid (HS.out.later ((Below.refl _ _).alloc (Nat.le_refl _) (.cells (ndC n) 59)))
      have HB2 := Lib.hid (Blk.new wr (ndC n) 59)
      unfold ndC at HS2 HB2
      generalize wr.alloc (.cells #[.int .i64 n.kind, .int .i64 n.a, .int .i64 n.b, .int .i64 n.lo, .int .i64 n.hi, .int .u64 (wd n.cls 0), .int .u64 (wd n.cls 1), .int .u64 (wd n.cls 2), .int .u64 (wd n.cls 3), .string (bs n.text)] 59) = w2 at *
      generalize wr.heap.size = bx at *
      clear g0 g1 g2 g3 g4 g5 g6 g7 g8 g9
      obtain ⟨g0, g1, g2, g3, g4, g5, g6, g7, g8, g9⟩ := ten_cells HB2.out
      go_wp2_with fail
      refine (moved_any n d HM.out _).mono ?_; rintro e w3 ⟨rfl, hb3⟩
      have HS3 := Lib.hid (HS2.out.later hb3)
      clear hb3 g0 g1 g2 g3 g4 g5 g6 g7 g8 g9
      generalize mvN d n = x at *
      unfold ndC
      have HS4 := Lib.hid (HS3.out.later ((Below.refl _ _).alloc (Nat.le_refl _) (.cells (ndC x) 59)))
      have HK := Lib.hid (Blk.new w3 (ndC x) 59)
      have hrm : (l0 ++ L).length + 1 ≤ cap := by rw [HL.out]; omega
      have HRM := Lib.hid hrm
      have HV : Hid (Value.slice (some ⟨g, 0, none⟩) (l0.length + k) cap = Value.slice (some ⟨g, 0, none⟩) (l0 ++ L).length cap) := by unfold Hid; rw [HL.out]
      clear hrm
      unfold ndC at HS4 HK
      go_wp2_with (at_builtin; refine wpList_append_nd_fits rfl _ _ rfl g g cap (l0 ++ L) (HV.out ▸ rfl) HS4.out.own w3.heap.size x rfl HK.out HRM.out ?_; intro w7 ho7 hb7; have HO7 := Lib.hid ho7; have HB7 := Lib.hid hb7; clear ho7 hb7)
      have HS7 : Hid (LaidF w g cap (some ⟨ba, oa, none⟩) m (l0 ++ (L ++ [x])) w7) := by
        refine ⟨gb_trans HS4.out.gb HB7.out, by rw [← List.append_assoc]; exact HO7.out, HS4.out.row.gb HA.out HB7.out⟩
      go_roundw
      case rel => exact ⟨k + 1, by omega, by go_num, by have := HL.out; rw [List.length_append] at this; simp only [List.length_append] at *; congr 1; omega, by rw [HN.out]; exact HS7.out⟩
      case measure => simp [intOf]; omega
    · obtain rfl : k = m.length := by omega
      have HO : Hid (LaidFPost w g cap (l0 ++ m.map (mvN d)) (.returned (.slice (some ⟨g, 0, none⟩) (l0.length + m.length) cap)) wr) := by
        have h := hs.own
        have hg := hs.gb
        rw [List.take_length] at h
        exact ⟨by simp, h, hg⟩
      clear hs
      go_wp2
      go_ret
      exact HO.out
end Go.Proofs.YtgehepiphdphjaaDoor
