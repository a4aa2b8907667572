/- Text, Deep: walked. -/
import Derived.Test.YtpbadglfegcdjaaGreatDoorM24
import Derived.Test.YtpbadglfegcdjaaGreatDoorM20
import Derived.Test.YtpbadglfegcdjaaGreatDoorM07
namespace Go.Proofs.YtpbadglfegcdjaaGreatDoor
open Go Go.RowKit
set_option linter.unusedVariables false
set_option linter.unusedSimpArgs false
set_option maxRecDepth 100000

theorem lenO_flat (o : List (List UInt8)) : lenO o = o.flatten.length := rfl
/-- The builder holds what was said. -/
def TxS (B b : Nat) (out : List (List UInt8)) (w : World) : Prop := Lib.IsBuilderF 61 5 B b (Lib.byteCells out.flatten) w
theorem txt_keep {B b : Nat} {out : List (List UInt8)} {w w' : World} (h : TxS B b out w) (k : MineK w w') : TxS B b out w' := by
  have at_ : ∀ p, Lib.BuilderAtF 61 5 B b p (Lib.byteCells out.flatten) w → Lib.BuilderAtF 61 5 B b p (Lib.byteCells out.flatten) w' := fun p hp => by
    obtain ⟨hB, v, hb, hown, hne⟩ := hp
    refine ⟨hB, v, k.2 _ _ _ _ hb (.inr (.inr rfl)), ⟨hown.1, ?_⟩, hne⟩
    rcases hown.2 with h | ⟨g, cap, cur, fz, hv, hg, hk, hr⟩
    · exact .inl h
    · exact .inr ⟨g, cap, cur, fz, hv, hg, k.2 _ _ _ _ hk (.inl rfl), hr⟩
  rcases h with h | h
  · exact .inl (at_ _ h)
  · exact .inr (at_ _ h)
theorem oth_of {b : Nat} {out : List (List UInt8)} {B : Nat} {w w' : World} (h : TxS B b out w) (k : Lib.OthersKept 5 (some b) w w') : OthK w w' := fun i o hi h1 _ h3 => by
  refine k i o hi (fun e => ?_) h1
  cases e
  rcases h with h | h
  · obtain ⟨_, v, hb, _⟩ := h
    rw [hi] at hb; cases hb
    exact h3 _ _ rfl
  · obtain ⟨_, v, hb, _⟩ := h
    rw [hi] at hb; cases hb
    exact h3 _ _ rfl
set_option maxHeartbeats 4000000 in
theorem text1_any (B b : Nat) (out : List (List UInt8)) (s : List UInt8) (w : World) (h : TxS B b out w) (hB : B ≤ w.heap.size) (hl : lenO (out ++ [s]) ≤ 1000000000) :
    Calls Tryz.prog 22 #[.string (bs s), .pointer (some ⟨b, 0, none⟩)] w (fun e w' => e = .returned (.tuple #[]) ∧ TxS B b (out ++ [s]) w' ∧ Below B w w' ∧ OthK w w') := by
  have hlen : (Lib.byteCells out.flatten).length + (bs s).size ≤ 140737488355328 := by
    rw [lenO_flat] at hl
    simp at hl
    rw [bs_size]
    unfold Lib.byteCells
    rw [List.length_map]
    simp; omega
  have HC := Lib.hid (Any.Builder_WriteString_k laysWrite (extra_of rfl rfl) B b (Lib.byteCells out.flatten) (bs s) w h hlen hB)
  have HO : Hid (∀ w', Lib.OthersKept 5 (some b) w w' → OthK w w') := fun w' k => oth_of h k
  clear h hl hlen
  go_enter Tryz.func22, Tryz.ntmps22
  go_wp2_with fail
  refine HC.out.mono ?_; rintro e w2 ⟨rfl, h1, h2, h3⟩
  have H1 : Hid (TxS B b (out ++ [s]) w2) := by
    refine .inr ?_
    have e : Lib.byteCells (out ++ [s]).flatten = Lib.byteCells out.flatten ++ Lib.strCells (bs s) := by
      rw [List.flatten_append, Lib.byteCells_append]; simp [Lib.strCells_eq, bs_data]
    rw [e]; exact h1
  have H2 := Lib.hid h2
  have H3 := Lib.hid (HO.out _ h3)
  clear h1 h2 h3 HC HO
  go_wp2
  go_end0
  exact ⟨rfl, H1.out, H2.out, H3.out⟩
theorem text_sayer (B b : Nat) : Sayer B 22 #[.pointer (some ⟨b, 0, none⟩)] (TxS B b) :=
  ⟨enters_of Tryz.func22 (by kernel_rfl) rfl, fun out s w h hB hl _ => text1_any B b out s w h hB hl, fun out w w' h k => txt_keep h k⟩
/-- What Deep's boxes hold. -/
def DpS (B b1 b2 : Nat) (out : List (List UInt8)) (w : World) : Prop := B ≤ b1 ∧ B ≤ b2 ∧ b1 ≠ b2 ∧ Blk w b1 #[.int .i64 (out.foldl dstep (0, 0)).1] 3 ∧ Blk w b2 #[.int .i64 (out.foldl dstep (0, 0)).2] 3
theorem dp_bound : ∀ (o : List (List UInt8)) (a m : Int), a ≤ m → a - (o.length : Int) ≤ (o.foldl dstep (a, m)).1 ∧ (o.foldl dstep (a, m)).1 ≤ a + (o.length : Int) ∧ (o.foldl dstep (a, m)).1 ≤ (o.foldl dstep (a, m)).2 ∧ (o.foldl dstep (a, m)).2 ≤ max m (a + (o.length : Int))
  | [], a, m, h => by simp; omega
  | s :: o, a, m, h => by
    have e : dstep (a, m) s = (if s = [40] then (a + 1, max m (a + 1)) else if s = [41] then (a - 1, m) else (a, m)) := rfl
    rw [List.foldl_cons, e]
    split
    · have := dp_bound o (a + 1) (max m (a + 1)) (by omega)
      simp only [List.length_cons]; omega
    · split
      · have := dp_bound o (a - 1) m (by omega)
        simp only [List.length_cons]; omega
      · have := dp_bound o a m h
        simp only [List.length_cons]; omega
set_option maxHeartbeats 4000000 in
theorem deep1_any (B b1 b2 : Nat) (out : List (List UInt8)) (s : List UInt8) (w : World) (h : DpS B b1 b2 out w) (hl : (out ++ [s]).length ≤ 1000000000) :
    Calls Tryz.prog 26 #[.string (bs s), .pointer (some ⟨b1, 0, none⟩), .pointer (some ⟨b2, 0, none⟩)] w (fun e w' => e = .returned (.tuple #[]) ∧ DpS B b1 b2 (out ++ [s]) w' ∧ Below B w w' ∧ OthK w w') := by
  obtain ⟨hB1, hB2, hne, k1, k2⟩ := h
  have hbd := dp_bound out 0 0 (by omega)
  rw [List.length_append] at hl
  have hst : (out ++ [s]).foldl dstep (0, 0) = dstep (out.foldl dstep (0, 0)) s := by rw [List.foldl_append]; rfl
  unfold DpS
  rw [hst]
  generalize out.foldl dstep (0, 0) = p at *
  obtain ⟨o, m⟩ := p
  simp only at k1 k2 hbd ⊢
  have hn : (out.length : Int) ≤ 1000000000 := by omega
  clear hst hl
  have ho1 : -1000000000 ≤ o := by omega
  have ho2 : o ≤ 1000000000 := by omega
  have hm1 : o ≤ m := hbd.2.2.1
  have hm2 : m ≤ 1000000000 := by omega
  clear hbd hn
  have c1 := k1.cell 0
  have c2 := k2.cell 0
  have f1 := k1.frozen 0
  have f2 := k2.frozen 0
  simp at c1 c2
  have K1 := Lib.hid k1
  have K2 := Lib.hid k2
  clear k1 k2
  have oth : ∀ (w' : World) (b : Nat) (cs : Array Value) (v : Value), Blk w' b cs 3 → OthK w' (w'.setCell ⟨b, 0, none⟩ v) := fun w' b cs v hb i x hi h1 h2 h3 => by
    rw [Below.heap_setCell _ _ _ _ (fun e => ?_)]
    · exact hi
    · subst e
      unfold Blk at hb
      have hi' : w'.heap[i]? = some x := hi
      rw [hb] at hi'; cases hi'
      exact h2 _ _ rfl
  have OTH := Lib.hid oth
  clear oth
  by_cases h40 : s = [40]
  · subst h40
    have q1 : ((bs [40]).toList == [40]) = true := by rw [bs_toList]; rfl
    have hd : dstep (o, m) [40] = (o + 1, max m (o + 1)) := rfl
    have HD := Lib.hid hd
    clear hd
    have g1 := Lib.hid (K1.out.setCell 0 (.int .i64 (o + 1)))
    have g2 := Lib.hid (K2.out.setCell_ne (a := ⟨b1, 0, none⟩) hne (.int .i64 (o + 1)))
    have c3 := g1.out.cell 0
    have c4 := g2.out.cell 0
    have f3 := g2.out.frozen 0
    simp at c3 c4
    go_enter Tryz.func26, Tryz.ntmps26
    go_wp2
    go_end0
    have b1' : Below B w (w.setCell ⟨b1, 0, none⟩ (.int .i64 (o + 1))) := (Below.refl _ _).setCell (p := ⟨b1, 0, none⟩) hB1 _
    refine ⟨rfl, ⟨hB1, hB2, hne, ?_, ?_⟩, b1'.setCell (p := ⟨b2, 0, none⟩) hB2 _, fun i x hi h1 h2 h3 => OTH.out _ b2 _ _ g2.out i x (OTH.out _ b1 _ _ K1.out i x hi h1 h2 h3) h1 h2 h3⟩
    · rw [HD.out]; exact g1.out.setCell_ne (a := ⟨b2, 0, none⟩) (Ne.symm hne) _
    · rw [HD.out]; exact g2.out.setCell 0 _
  · by_cases h41 : s = [41]
    · subst h41
      have q1 : ((bs [41]).toList == [40]) = false := by rw [bs_toList]; rfl
      have q2 : ((bs [41]).toList == [41]) = true := by rw [bs_toList]; rfl
      have hd : dstep (o, m) [41] = (o - 1, m) := rfl
      have HD := Lib.hid hd
      clear hd
      go_enter Tryz.func26, Tryz.ntmps26
      go_wp2
      go_end0
      exact ⟨rfl, by rw [HD.out]; exact ⟨hB1, hB2, hne, K1.out.setCell 0 _, K2.out.setCell_ne (a := ⟨b1, 0, none⟩) hne _⟩, (Below.refl _ _).setCell (p := ⟨b1, 0, none⟩) hB1 _, OTH.out _ b1 _ _ K1.out⟩
    · have q1 : ((bs s).toList == [40]) = false := by rw [bs_toList, beq_eq_false_iff_ne]; exact h40
      have q2 : ((bs s).toList == [41]) = false := by rw [bs_toList, beq_eq_false_iff_ne]; exact h41
      have hd : dstep (o, m) s = (o, m) := by unfold dstep; rw [if_neg h40, if_neg h41]
      have HD := Lib.hid hd
      clear hd h40 h41
      go_enter Tryz.func26, Tryz.ntmps26
      go_wp2
      go_end0
      exact ⟨rfl, by rw [HD.out]; exact ⟨hB1, hB2, hne, K1.out, K2.out⟩, Below.refl _ _, fun i x hi _ _ _ => hi⟩
theorem deep_sayer (B b1 b2 : Nat) : Sayer B 26 #[.pointer (some ⟨b1, 0, none⟩), .pointer (some ⟨b2, 0, none⟩)] (DpS B b1 b2) :=
  ⟨enters_of Tryz.func26 (by kernel_rfl) rfl, fun out s w h hB _ hl => deep1_any B b1 b2 out s w h hl, fun out w w' h k => ⟨h.1, h.2.1, h.2.2.1, k.2 _ _ _ _ h.2.2.2.1 (.inr (.inl rfl)), k.2 _ _ _ _ h.2.2.2.2 (.inr (.inl rfl))⟩⟩
/-- A description whose text is told. -/
structure PrOk (l : List Nd) : Prop where
  form : Form l
  len : l.length ≤ 1000
  txt : ∀ n ∈ l, n.text.length ≤ 2000
theorem PrOk.te {l : List Nd} (h : PrOk l) : ∀ n ∈ l, TeOk n := fun n hn => by
  obtain ⟨i, hi, rfl⟩ := List.mem_iff_getElem.1 hn
  have e : atN l i = l[i] := by unfold atN; rw [List.getD_eq_getElem?_getD, List.getElem?_eq_getElem hi]; rfl
  have ho := h.form.2.1 i hi
  rw [e] at ho
  have ht := h.txt _ hn
  obtain ⟨_, hk⟩ := ho
  exact ⟨by omega, by omega, fun h7 => by omega⟩
def sgsL (l : List Nd) : List (List UInt8) := sgsF clsT bndT l l.length ((l.length : Int) - 1) 0
theorem sgs_ne (l : List Nd) : ∀ (f : Nat) (i lev : Int), ∀ s ∈ sgsF clsT bndT l f i lev, s ≠ []
  | 0, i, lev, s, h => by cases h
  | f + 1, i, lev, s, h => by
    unfold sgsF at h
    rw [List.mem_flatMap] at h
    obtain ⟨p, hp, hs⟩ := h
    cases p with
    | sg t =>
      simp at hs
      subst hs
      exact fullN_ok _ _ _ hp
    | nd j lv => exact sgs_ne l f j lv s hs
theorem len_lenO : ∀ (o : List (List UInt8)), (∀ s ∈ o, s ≠ []) → o.length ≤ lenO o
  | [], _ => Nat.zero_le _
  | s :: o, h => by
    have h1 := len_lenO o (fun t ht => h t (List.mem_cons_of_mem _ ht))
    have h2 : 0 < s.length := List.length_pos_iff.2 (h s (by simp))
    rw [lenO_cons, List.length_cons]; omega
theorem PrOk.run {l : List Nd} (h : PrOk l) : ∃ F, eachR clsT bndT l F (fun _ => false) [.nd ((l.length : Int) - 1) 0] = some (sgsL l) := by
  obtain ⟨k, t, hk⟩ := told_text h.form
  refine ⟨1 + k, ?_⟩
  rw [hk 1 []]
  show some (sgsL l ++ []) = _
  rw [List.append_nil]
theorem PrOk.lens {l : List Nd} (h : PrOk l) : lenO (sgsL l) ≤ 1000000000 ∧ (sgsL l).length ≤ 1000000000 := by
  have h1 := textN_len h.form h.txt
  have h2 := h.len
  have h3 : lenO (sgsL l) = (textN l).length := rfl
  have h4 := len_lenO (sgsL l) (sgs_ne l _ _ _)
  omega
end Go.Proofs.YtpbadglfegcdjaaGreatDoor
/- Text, Deep: walked, whole. -/
namespace Go.Proofs.YtpbadglfegcdjaaGreatDoor
open Go Go.RowKit
set_option linter.unusedVariables false
set_option linter.unusedSimpArgs false
set_option maxRecDepth 100000

theorem T10.lt {w : World} (h : T10 w) : 3 < w.heap.size := by
  unfold T10 Lib.TabIs World.var? at h
  rw [show Tryz.prog.globalNamed "internal/strconv.uint64pow10" = some 3 by kernel_rfl] at h
  simp only [Option.bind_some] at h
  rcases Nat.lt_or_ge 3 w.heap.size with h' | h'
  · exact h'
  · rw [Array.getElem?_eq_none h'] at h; cases h
theorem row_low {l : List Nd} {A : Option Addr} {w : World} (h : NRow w A l) (hp : 0 < l.length) : ∀ b o, A = some ⟨b, o, none⟩ → b < w.heap.size := fun b o e => by
  obtain ⟨b', o', h1, h2, _⟩ := h 0 hp
  rw [e] at h1; cases h1; exact h2
set_option maxHeartbeats 8000000 in
theorem ptext_any (l : List Nd) (hp : PrOk l) (A : Option Addr) (c : Nat) (w : World) (hrow : NRow w A l) (hT : T10 w) :
    Calls Tryz.prog 9 #[.agg #[.slice A l.length c]] w (Ans w (.string (bs (textN l)))) := by
  obtain ⟨F, hrun⟩ := hp.run
  obtain ⟨hl1, hl2⟩ := hp.lens
  have hb1 := (Below.refl w.heap.size w).alloc (Nat.le_refl _) (.cells #[.slice A l.length c] 24)
  have hb2 := hb1.alloc hb1.size (.cells #[.pointer none, .slice none 0 0] 61)
  have hS : TxS w.heap.size (w.heap.size + 1) [] ((w.alloc (.cells #[.slice A l.length c] 24)).alloc (.cells #[.pointer none, .slice none 0 0] 61)) := by
    refine .inl ⟨Nat.le_succ _, .slice none 0 0, ?_, ⟨rfl, .inl ⟨rfl, rfl⟩⟩, by simp [Value.ownBlock]⟩
    exact (show Blk ((w.alloc (.cells #[.slice A l.length c] 24)).alloc (.cells #[.pointer none, .slice none 0 0] 61)) (w.heap.size + 1) #[.pointer none, .slice none 0 0] 61 from Blk.new' (by simp) _ _)
  have CE := Lib.hid (each_any l A c w.heap.size _ _ _ (text_sayer w.heap.size (w.heap.size + 1)) hp.form hp.len hp.te F (sgsL l) hrun hl1 hl2 _ hb2.size (row_low hrow hp.form.1) hT.lt (hrow.later hb2) (hT.later hb2) hS)
  have HB2 := Lib.hid hb2
  have HTX : Hid (bs (sgsL l).flatten = bs (textN l)) := rfl
  clear hb1 hb2 hS hrun hl1 hl2 hrow hT hp
  generalize textN l = v at *
  generalize sgsL l = tot at *
  go_enter Tryz.func9, Tryz.ntmps9
  go_upto_region 2 with (fail)
  go_wp2_with fail
  refine CE.out.mono ?_; rintro e w3 ⟨rfl, hs3, hb3⟩
  have HB3 := Lib.hid (HB2.out.trans hb3)
  have CS := Lib.hid (Any.Builder_String_any_k laysString (extra_of rfl rfl) w.heap.size (w.heap.size + 1) tot.flatten w3 hs3 HB3.out.size)
  clear hs3 hb3 CE HB2
  go_wp2_with fail
  refine CS.out.mono ?_; rintro e w4 ⟨rfl, -, hb4, -⟩
  have HB4 := Lib.hid (HB3.out.trans hb4)
  clear hb4 CS
  go_wp2
  go_ret
  exact ⟨by rw [← HTX.out]; rfl, HB4.out⟩
set_option maxHeartbeats 8000000 in
theorem pdeep_any (l : List Nd) (hp : PrOk l) (A : Option Addr) (c : Nat) (w : World) (hrow : NRow w A l) (hT : T10 w) :
    Calls Tryz.prog 11 #[.agg #[.slice A l.length c]] w (Ans w (.int .i64 ((deepN l : Nat) : Int))) := by
  obtain ⟨F, hrun⟩ := hp.run
  obtain ⟨hl1, hl2⟩ := hp.lens
  have hdp : (sgsL l).foldl dstep (0, 0) = (0, (deepN l : Int)) := deep_pieces l
  have hb1 := (Below.refl w.heap.size w).alloc (Nat.le_refl _) (.cells #[.slice A l.length c] 24)
  have hb2 := hb1.alloc hb1.size (.cells #[.int .i64 0] 3)
  have hb3 := hb2.alloc hb2.size (.cells #[.int .i64 0] 3)
  have hS : DpS w.heap.size (w.heap.size + 1) (w.heap.size + 1 + 1) [] (((w.alloc (.cells #[.slice A l.length c] 24)).alloc (.cells #[.int .i64 0] 3)).alloc (.cells #[.int .i64 0] 3)) :=
    ⟨by omega, by omega, by omega, (show Blk ((w.alloc (.cells #[.slice A l.length c] 24)).alloc (.cells #[.int .i64 0] 3)) (w.heap.size + 1) #[.int .i64 0] 3 from Blk.new' (by simp) _ _).alloc _, (show Blk (((w.alloc (.cells #[.slice A l.length c] 24)).alloc (.cells #[.int .i64 0] 3)).alloc (.cells #[.int .i64 0] 3)) (w.heap.size + 1 + 1) #[.int .i64 0] 3 from Blk.new' (by simp) _ _)⟩
  have CE := Lib.hid (each_any l A c w.heap.size _ _ _ (deep_sayer w.heap.size (w.heap.size + 1) (w.heap.size + 1 + 1)) hp.form hp.len hp.te F (sgsL l) hrun hl1 hl2 _ hb3.size (row_low hrow hp.form.1) hT.lt (hrow.later hb3) (hT.later hb3) hS)
  have HB3 := Lib.hid hb3
  have HDP := Lib.hid hdp
  clear hb1 hb2 hb3 hS hrun hl1 hl2 hrow hT hp hdp
  generalize deepN l = v at *
  generalize sgsL l = tot at *
  go_enter Tryz.func11, Tryz.ntmps11
  go_upto_region 2 with (fail)
  go_wp2_with fail
  refine CE.out.mono ?_; rintro e w4 ⟨rfl, ⟨-, -, -, -, k2⟩, hb4⟩
  have HB4 := Lib.hid (HB3.out.trans hb4)
  rw [HDP.out] at k2
  have c2 := k2.cell 0
  simp at c2
  clear hb4 CE k2
  go_wp2
  go_ret
  exact ⟨rfl, HB4.out⟩
end Go.Proofs.YtpbadglfegcdjaaGreatDoor
/- Descriptions that have their form, and aren't long; what the document's calls make of them. -/
namespace Go.Proofs.YtpbadglfegcdjaaGreatDoor
open Go Go.RowKit
set_option linter.unusedVariables false
set_option linter.unusedSimpArgs false

/-- A description that has its form, and isn't long. -/
structure Sd (l : List Nd) : Prop where
  form : Form l
  len : l.length ≤ 1000
  txt : Txt l
theorem Form.at_' {l : List Nd} (h : Form l) {n : Nd} (hn : n ∈ l) : ∃ i, i < l.length ∧ atN l i = n := by
  obtain ⟨i, hi, rfl⟩ := List.mem_iff_getElem.1 hn
  exact ⟨i, hi, by unfold atN; rw [List.getD_eq_getElem?_getD, List.getElem?_eq_getElem hi]; rfl⟩
theorem Sd.mv {l : List Nd} (h : Sd l) {d : Int} (h1 : -1073741824 ≤ d) (h2 : d ≤ 1073741824) : ∀ n ∈ l, MvOk d n ∧ n.kind ≤ 9 := fun n hn => by
  have hl := h.len
  obtain ⟨i, hi, rfl⟩ := h.form.at_' hn
  exact ⟨(h.form.2.1 i hi).mvOk (by omega) (txt_at h.txt i) h1 h2, (h.form.2.1 i hi).kind9⟩
theorem Txt.snoc' {l : List Nd} (h : Txt l) {n : Nd} (hn : n.text = []) : Txt (l ++ [n]) := fun m hm => by
  rcases List.mem_append.1 hm with h1 | h1
  · exact h m h1
  · rw [List.mem_singleton.1 h1, hn]; simp
theorem Txt.mv' {l : List Nd} (h : Txt l) (d : Int) : Txt (l.map (mvN d)) := fun m hm => by
  obtain ⟨n, hn, rfl⟩ := List.mem_map.1 hm
  have e : (mvN d n).text = n.text := by unfold mvN; (repeat' split) <;> rfl
  rw [e]; exact h n hn
theorem Sd.wrap {l : List Nd} (h : Sd l) (hl : l.length ≤ 999) {kind : Int} (hk : kind = 6 ∨ kind = 8 ∨ kind = 9) : Sd (wrapL kind 0 0 l) :=
  ⟨wrap_form h.form hk ⟨rfl, rfl⟩, by unfold wrapL; rw [List.length_append]; simp; omega, by unfold wrapL; exact h.txt.snoc' rfl⟩
theorem Sd.rep {l : List Nd} (h : Sd l) (hl : l.length ≤ 999) {lo hi : Int} (h1 : 0 ≤ lo) (h2 : lo ≤ hi) (h3 : hi ≤ 255) : Sd (wrapL 7 lo hi l) :=
  ⟨wrap_form7 h.form h1 h2 h3, by unfold wrapL; rw [List.length_append]; simp; omega, by unfold wrapL; exact h.txt.snoc' rfl⟩
theorem Sd.pair {l m : List Nd} (h : Sd l) (k : Sd m) (hl : l.length + m.length ≤ 999) {kind : Int} (hk : kind = 4 ∨ kind = 5) : Sd (pairL kind l m) :=
  ⟨pair_form h.form k.form hk, by unfold pairL; rw [List.length_append, List.length_append, List.length_map]; simp; omega, by
    unfold pairL
    refine Txt.snoc' (fun n hn => ?_) rfl
    rcases List.mem_append.1 hn with h1 | h1
    · exact h.txt n h1
    · exact k.txt.mv' _ n h1⟩
theorem wrapL_length' (kind lo hi : Int) (l : List Nd) : (wrapL kind lo hi l).length = l.length + 1 := by unfold wrapL; rw [List.length_append]; rfl
theorem IsD.rwrap' {l : List Nd} {v : Value} {w : World} (h : IsD l v w) (hs : Sd l) (kind lo hi : Int) : Calls Tryz.prog 16 #[.int .i64 kind, .int .i64 lo, .int .i64 hi, v] w (DPost w (wrapL kind lo hi l)) := by
  obtain ⟨A, c, hc, rfl, hr⟩ := h
  exact rwrap_any kind lo hi l A c hs.form.1 (by have := hs.len; omega) (hs.mv (by omega) (by omega)) w hr
theorem IsD.rpair' {l m : List Nd} {u v : Value} {w : World} (h : IsD l u w) (k : IsD m v w) (hs : Sd l) (ks : Sd m) (kind : Int) : Calls Tryz.prog 15 #[.int .i64 kind, u, v] w (DPost w (pairL kind l m)) := by
  obtain ⟨A, c, hc, rfl, hr⟩ := h
  obtain ⟨B, d, hd, rfl, hq⟩ := k
  have h1 := hs.len
  have h2 := ks.len
  exact rpairs_any kind l m A B c d hs.form.1 ks.form.1 (by omega) (by omega) (hs.mv (by omega) (by omega)) (ks.mv (by omega) (by omega)) w hr hq
end Go.Proofs.YtpbadglfegcdjaaGreatDoor
/- How deep descriptions built of others are: plain mathematics. -/
namespace Go.Proofs.YtpbadglfegcdjaaGreatDoor
open Go
set_option linter.unusedVariables false
set_option linter.unusedSimpArgs false

end Go.Proofs.YtpbadglfegcdjaaGreatDoor
