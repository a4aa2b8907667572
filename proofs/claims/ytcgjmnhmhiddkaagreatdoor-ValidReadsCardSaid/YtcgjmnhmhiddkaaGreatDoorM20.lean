/- What the document's parser answers, told by its own looks: plain mathematics. -/
import Derived.Test.YtcgjmnhmhiddkaaGreatDoorM15
import Derived.Test.YtcgjmnhmhiddkaaGreatDoorM19
import Derived.Test.YtcgjmnhmhiddkaaGreatDoorM13
import Derived.Test.YtcgjmnhmhiddkaaGreatDoorM14
import Derived.Test.YtcgjmnhmhiddkaaGreatDoorM12
import Derived.Test.YtcgjmnhmhiddkaaGreatDoorM18
import Derived.Deep.DeepCutAuto
import Derived.Test.YtcgjmnhmhiddkaaGreatDoorProg
import Derived.WalkKit
import Derived.Carry
import Derived.Below
import Derived.Laws.EntriesVeiled
namespace Go.Proofs.YtcgjmnhmhiddkaaGreatDoor
open Go
set_option linter.unusedVariables false
set_option linter.unusedSimpArgs false
theorem dv_len {l : List Tk} {m : DM} {a b : Nat} {D : List Nd} {A : List Int} (h : Dv l m a b D A) : A.length = D.length ∧ (m = .inside → D.length ≤ 2 * (b - a) + 1) ∧ (m ≠ .inside → a < b ∧ D.length + 1 ≤ 2 * (b - a)) := by
  induction h with
  | cls h => exact ⟨rfl, (by intro h; cases h), fun _ => ⟨by omega, by simp only [List.length_cons, List.length_nil]; omega⟩⟩
  | text h => exact ⟨rfl, (by intro h; cases h), fun _ => ⟨by omega, by simp only [List.length_cons, List.length_nil]; omega⟩⟩
  | brk h d ih => exact ⟨ih.1, (by intro h; cases h), fun _ => ih.2.2 (by intro h; cases h)⟩
  | frame h d ih =>
    obtain ⟨h1, h2⟩ := ih.2.2 (by intro h; cases h)
    refine ⟨by unfold wrapL; simp [ih.1], (by intro h; cases h), fun _ => ⟨by omega, by unfold wrapL; rw [List.length_append]; simp only [List.length_cons, List.length_nil]; omega⟩⟩
  | group h d h4 ih =>
    have hle := (dv_kinds d).1
    refine ⟨ih.1, (by intro h; cases h), fun _ => ⟨by omega, ?_⟩⟩
    rename_i m0 a0 b0 D0 A0
    have h3 := ih.2.1 rfl
    omega
  | none h => exact ⟨rfl, fun _ => by simp, fun h => absurd rfl h⟩
  | some h d ih =>
    obtain ⟨h1, h2⟩ := ih.2.2 (by intro h; cases h)
    exact ⟨ih.1, fun _ => by omega, fun h => absurd rfl h⟩
  | post0 d ih => exact ⟨ih.1, (by intro h; cases h), fun _ => ih.2.2 (by intro h; cases h)⟩
  | star d h ih =>
    obtain ⟨h1, h2⟩ := ih.2.2 (by intro h; cases h)
    refine ⟨by unfold wrapL; simp [ih.1], (by intro h; cases h), fun _ => ⟨by omega, by unfold wrapL; rw [List.length_append]; simp only [List.length_cons, List.length_nil]; omega⟩⟩
  | rep d h ih =>
    obtain ⟨h1, h2⟩ := ih.2.2 (by intro h; cases h)
    refine ⟨by unfold wrapL; simp [ih.1], (by intro h; cases h), fun _ => ⟨by omega, by unfold wrapL; rw [List.length_append]; simp only [List.length_cons, List.length_nil]; omega⟩⟩
  | row0 d ih => exact ⟨ih.1, (by intro h; cases h), fun _ => ih.2.2 (by intro h; cases h)⟩
  | row d h e ih ih2 =>
    obtain ⟨h1, h2⟩ := ih.2.2 (by intro h; cases h)
    obtain ⟨h3, h4⟩ := ih2.2.2 (by intro h; cases h)
    refine ⟨by rw [pairL_len, List.length_append, List.length_append, ih.1, ih2.1]; rfl, (by intro h; cases h), fun _ => ⟨by omega, by rw [pairL_len]; omega⟩⟩
  | or0 d ih => exact ⟨ih.1, (by intro h; cases h), fun _ => ih.2.2 (by intro h; cases h)⟩
  | or d h e ih ih2 =>
    obtain ⟨h1, h2⟩ := ih.2.2 (by intro h; cases h)
    obtain ⟨h3, h4⟩ := ih2.2.2 (by intro h; cases h)
    refine ⟨by rw [pairL_len, List.length_append, List.length_append, ih.1, ih2.1]; rfl, (by intro h; cases h), fun _ => ⟨by omega, by rw [pairL_len]; omega⟩⟩
theorem dv_form {l : List Tk} (hk : TkOk l) {m : DM} {a b : Nat} {D : List Nd} {A : List Int} (h : Dv l m a b D A) : Form D := by
  have one : ∀ n : Nd, okN [n] 0 n → Form [n] := fun n h => by
    refine ⟨by simp, fun i hi => ?_, ?_⟩
    · obtain rfl : i = 0 := by simpa using hi
      exact h
    · show firstP [n] 0 = 0
      have := firstP_le [n] 0; omega
  induction h with
  | cls h => exact one _ ⟨by simp [backN], .inr (.inl rfl)⟩
  | text h => exact one _ ⟨by simp [backN], .inr (.inr (.inl ⟨rfl, (hk.at _).1 h⟩))⟩
  | brk h d ih => exact ih
  | frame h d ih => exact wrap_form ih (by omega) ⟨rfl, rfl⟩
  | group h d h4 ih => exact ih
  | none h => exact one _ ⟨by simp [backN], .inl rfl⟩
  | some h d ih => exact ih
  | post0 d ih => exact ih
  | star d h ih => exact wrap_form ih (.inl rfl) ⟨rfl, rfl⟩
  | rep d h ih =>
    obtain ⟨h1, h2, h3⟩ := (hk.at _).2 h
    exact wrap_form7 ih h1 h2 h3
  | row0 d ih => exact ih
  | row d h e ih ih2 => exact pair_form ih ih2 (.inl rfl)
  | or0 d ih => exact ih
  | or d h e ih ih2 => exact pair_form ih ih2 (.inr rfl)
theorem dv_txt {l : List Tk} {M : Nat} (hM : ∀ p, (tkAt l p).text.length ≤ M) {m : DM} {a b : Nat} {D : List Nd} {A : List Int} (h : Dv l m a b D A) : ∀ n ∈ D, n.text.length ≤ M := by
  have wr : ∀ {kind lo hi : Int} {D : List Nd}, (∀ n ∈ D, n.text.length ≤ M) → ∀ n ∈ wrapL kind lo hi D, n.text.length ≤ M := fun h n hn => by
    unfold wrapL at hn
    rcases List.mem_append.1 hn with hn | hn
    · exact h n hn
    · rw [List.mem_singleton.1 hn]; exact Nat.zero_le _
  have pr : ∀ {kind : Int} {D E : List Nd}, (∀ n ∈ D, n.text.length ≤ M) → (∀ n ∈ E, n.text.length ≤ M) → ∀ n ∈ pairL kind D E, n.text.length ≤ M := fun h k n hn => by
    unfold pairL at hn
    rcases List.mem_append.1 hn with hn | hn
    · rcases List.mem_append.1 hn with hn | hn
      · exact h n hn
      · obtain ⟨x, hx, rfl⟩ := List.mem_map.1 hn
        have e : ∀ c : Int, (mvN c x).text = x.text := fun c => by unfold mvN; (repeat' split) <;> rfl
        rw [e]; exact k x hx
    · rw [List.mem_singleton.1 hn]; exact Nat.zero_le _
  induction h with
  | cls h => intro n hn; rw [List.mem_singleton.1 hn]; exact Nat.zero_le _
  | text h => intro n hn; rw [List.mem_singleton.1 hn]; exact hM _
  | brk h d ih => exact ih
  | frame h d ih => exact wr ih
  | group h d h4 ih => exact ih
  | none h => intro n hn; rw [List.mem_singleton.1 hn]; exact Nat.zero_le _
  | some h d ih => exact ih
  | post0 d ih => exact ih
  | star d h ih => exact wr ih
  | rep d h ih => exact wr ih
  | row0 d ih => exact ih
  | row d h e ih ih2 => exact pr ih ih2
  | or0 d ih => exact ih
  | or d h e ih ih2 => exact pr ih ih2
structure IsF (l : List Tk) (f : Nat) : Prop where
  le : f ≤ l.length
  seg : ∀ q, q < f → mayAt l q
  stop : f < l.length → ¬ mayAt l f
theorem IsF.one {l : List Tk} {f g : Nat} (h : IsF l f) (k : IsF l g) : f = g := by
  rcases Nat.lt_trichotomy f g with h1 | h1 | h1
  · exact absurd (k.seg f h1) (h.stop (by have := k.le; omega))
  · exact h1
  · exact absurd (h.seg g h1) (k.stop (by have := h.le; omega))
def deepF (l : List Tk) (f : Nat) : Option Nat := (List.range f).find? fun i => decide (64 < cntO l 0 (i + 1))
theorem deepF_some {l : List Tk} {f i : Nat} : deepF l f = some i ↔ i < f ∧ 64 < cntO l 0 (i + 1) ∧ ∀ j, j < i → ¬ 64 < cntO l 0 (j + 1) := by
  unfold deepF
  rw [List.find?_range_eq_some]
  constructor
  · rintro ⟨h1, h2, h3⟩
    exact ⟨List.mem_range.1 h2, by simpa using h1, fun j hj => by have := h3 j hj; simpa using this⟩
  · rintro ⟨h1, h2, h3⟩
    exact ⟨by simpa using h2, List.mem_range.2 h1, fun j hj => by have := h3 j hj; simpa using this⟩
theorem deepF_none {l : List Tk} {f : Nat} : deepF l f = none ↔ ∀ j, j < f → ¬ 64 < cntO l 0 (j + 1) := by
  unfold deepF
  rw [List.find?_range_eq_none]
  constructor
  · intro h j hj; have := h j hj; simpa using this
  · intro h j hj; have := h j hj; simpa using this
def TwP (l : List Tk) (r : PR) : Prop := ∃ f, IsF l f ∧ match deepF l f with
  | some i => r = .bad 8 (tkAt l i).at_
  | none => if f < l.length then r = (if (tkAt l f).kind = 10 ∧ (opsL l f) ≠ [] then .bad 6 ((opsL l f).getLast?.getD 0) else .bad 7 (tkAt l f).at_)
    else ∃ D A, Dv l .or 0 (l.length - 1) D A ∧ (if 4096 < D.length then r = .bad 9 (tkAt l (l.length - 1)).at_ else ∃ k t, r = .ok k t ∧ t.nodes = D ∧ t.ats = A)
theorem seg_may {l : List Tk} {n : Nat} (h : Seg l 0 n) : (∀ q, q < n → mayAt l q) ∧ ∀ j, j < n → ¬ 64 < cntO l 0 (j + 1) :=
  ⟨fun q hq => (h q (Nat.zero_le _) hq).1, fun j hj => by have := (h j (Nat.zero_le _) hj).2; rw [opsL_cnt] at this; omega⟩
theorem parse_twin {l : List Tk} (he : TEnds l) : TwP l (parseP l) := by
  have hpos := he.pos
  have q := parse_ref he
  cases hp : parseP l with
  | out => rw [hp] at q; exact q.elim
  | ok k t =>
    rw [hp] at q
    obtain ⟨hs, D, A, hd, hn, ha, hl⟩ := q
    obtain ⟨h1, h2⟩ := seg_may hs
    refine ⟨l.length, ⟨Nat.le_refl _, h1, fun h => absurd h (Nat.lt_irrefl _)⟩, ?_⟩
    rw [deepF_none.2 h2]
    simp only
    rw [if_neg (Nat.lt_irrefl _)]
    exact ⟨D, A, hd, by rw [if_neg (by omega)]; exact ⟨k, t, rfl, hn, ha⟩⟩
  | bad e p =>
    rw [hp] at q
    rcases q with ⟨rfl, rfl, hs, D, A, hd, hl⟩ | ⟨f, hf, hF⟩
    · obtain ⟨h1, h2⟩ := seg_may hs
      refine ⟨l.length, ⟨Nat.le_refl _, h1, fun h => absurd h (Nat.lt_irrefl _)⟩, ?_⟩
      rw [deepF_none.2 h2]
      simp only
      rw [if_neg (Nat.lt_irrefl _)]
      exact ⟨D, A, hd, by rw [if_pos hl]; trivial⟩
    · obtain ⟨h1, h2⟩ := seg_may hF.seg
      rcases hF.what with ⟨rfl, h3, hm, hdp, rfl⟩ | ⟨hn, hv⟩
      · -- too deep at f: the first that may not stand is further on
        have hex : ∃ g, IsF l g := by
          have key : ∀ n, n ≤ l.length → (∃ g, IsF l g) ∨ ∀ q, q < n → mayAt l q := fun n => by
            induction n with
            | zero => intro _; exact .inr fun q hq => absurd hq (Nat.not_lt_zero q)
            | succ n ih =>
              intro hn
              rcases ih (by omega) with h | h
              · exact .inl h
              · by_cases hm : mayAt l n
                · exact .inr fun q hq => by
                    rcases Nat.lt_or_ge q n with h4 | h4
                    · exact h q h4
                    · rw [show q = n by omega]; exact hm
                · exact .inl ⟨n, by omega, h, fun _ => hm⟩
          rcases key l.length (Nat.le_refl _) with h | h
          · exact h
          · exact ⟨l.length, Nat.le_refl _, h, fun h => absurd h (Nat.lt_irrefl _)⟩
        obtain ⟨g, hg⟩ := hex
        have hfg : f < g := by
          rcases Nat.lt_or_ge f g with h | h
          · exact h
          · exfalso
            have hgl : g < l.length := by omega
            apply hg.stop hgl
            rcases Nat.lt_or_ge g f with h4 | h4
            · exact h1 g h4
            · rw [show g = f by omega]; exact hm
        refine ⟨g, hg, ?_⟩
        rw [deepF_some.2 ⟨hfg, by rw [← opsL_cnt]; exact hdp, h2⟩]
      · refine ⟨f, ⟨by omega, h1, fun _ => hn⟩, ?_⟩
        rw [deepF_none.2 h2]
        simp only
        rw [if_pos hf]
        unfold faultV at hv
        by_cases h10 : (tkAt l f).kind = 10
        · cases hg : (opsL l f).getLast? with
          | none =>
            rw [h10, hg] at hv
            have hnil : opsL l f = [] := List.getLast?_eq_none_iff.1 hg
            rw [if_neg (by rw [hnil]; exact fun h => h.2 rfl)]
            have hv : ((7 : Int), (tkAt l f).at_) = (e, p) := hv
            injection hv with e1 e2
            rw [← e1, ← e2]
          | some x =>
            rw [h10, hg] at hv
            have hnn : opsL l f ≠ [] := fun h => by rw [h] at hg; cases hg
            rw [if_pos ⟨h10, hnn⟩]
            have hv : ((6 : Int), x) = (e, p) := hv
            injection hv with e1 e2
            rw [← e1, ← e2]; rfl
        · rw [if_neg (fun h => h10 h.1)]
          split at hv
          · rename_i e1 _; exact absurd e1 h10
          · injection hv with e1 e2
            rw [← e1, ← e2]
def OpF (l : List Tk) (f i : Nat) (x : Int) : Prop := (x = -1 ∧ ∀ j, j < i → ¬ ((tkAt l j).kind = 3 ∧ Unm l j f)) ∨ ∃ j, j < i ∧ (tkAt l j).kind = 3 ∧ Unm l j f ∧ x = (tkAt l j).at_ ∧ ∀ k, j < k → k < i → ¬ ((tkAt l k).kind = 3 ∧ Unm l k f)
theorem OpF.zero (l : List Tk) (f : Nat) : OpF l f 0 (-1) := .inl ⟨rfl, fun j hj => absurd hj (Nat.not_lt_zero j)⟩
theorem OpF.same {l : List Tk} {f i : Nat} {x : Int} (h : OpF l f i x) (hn : ¬ ((tkAt l i).kind = 3 ∧ Unm l i f)) : OpF l f (i + 1) x := by
  rcases h with ⟨h1, h2⟩ | ⟨j, h1, h2, h3, h4, h5⟩
  · exact .inl ⟨h1, fun j hj => by
      rcases Nat.lt_or_ge j i with h | h
      · exact h2 j h
      · rw [show j = i by omega]; exact hn⟩
  · exact .inr ⟨j, by omega, h2, h3, h4, fun k k1 k2 => by
      rcases Nat.lt_or_ge k i with h | h
      · exact h5 k k1 h
      · rw [show k = i by omega]; exact hn⟩
theorem OpF.hit {l : List Tk} {f i : Nat} (h3 : (tkAt l i).kind = 3) (hu : Unm l i f) : OpF l f (i + 1) (tkAt l i).at_ := .inr ⟨i, Nat.lt_succ_self i, h3, hu, rfl, fun k k1 k2 => by omega⟩
theorem OpF.done {l : List Tk} {f : Nat} {x : Int} (hf : ∀ q, q < f → mayAt l q) (h : OpF l f f x) : (opsL l f = [] ∧ x = -1) ∨ (opsL l f ≠ [] ∧ (opsL l f).getLast?.getD 0 = x ∧ ∃ j, j < f ∧ x = (tkAt l j).at_) := by
  have sp := seg_spec hf
  rw [opsL_map]
  generalize opsI l f = L at *
  rcases h with ⟨h1, h2⟩ | ⟨j, h1, h2, h3, h4, h5⟩
  · left
    refine ⟨?_, h1⟩
    cases L with
    | nil => rfl
    | cons y L =>
      exfalso
      have hz : 0 < (y :: L).length := by simp
      exact h2 _ (sp.lt 0 hz) ⟨sp.op 0 hz, sp.unm 0 hz⟩
  · right
    have hm := sp.all j h1 h2 h3
    obtain ⟨r, hr, er⟩ := gd_mem.1 hm
    have hlast : r = L.length - 1 := by
      rcases Nat.lt_or_ge r (L.length - 1) with h | h
      · exfalso
        have hl : L.length - 1 < L.length := by omega
        have hu := sp.up r (L.length - 1) h hl
        rw [er] at hu
        exact h5 _ hu (sp.lt _ hl) ⟨sp.op _ hl, sp.unm _ hl⟩
      · omega
    have hne : L ≠ [] := fun e => by rw [e] at hr; exact absurd hr (Nat.not_lt_zero _)
    refine ⟨fun e => hne (List.map_eq_nil_iff.1 e), ?_, j, h1, h4⟩
    rw [List.getLast?_map, List.getLast?_eq_getElem?, ← hlast]
    rw [List.getD_eq_getElem?_getD, List.getElem?_eq_getElem hr] at er
    rw [List.getElem?_eq_getElem hr]
    show (tkAt l (L[r]'hr)).at_ = x
    have er : L[r]'hr = j := er
    rw [er, h4]
end Go.Proofs.YtcgjmnhmhiddkaaGreatDoor
namespace Go.Proofs.YtcgjmnhmhiddkaaGreatDoor
open Go Go.RowKit
set_option linter.unusedVariables false
set_option linter.unusedSimpArgs false
set_option maxRecDepth 100000
def PtP (w : World) (D : List Nd) (Q : List Int) (e : Ending) (w' : World) : Prop := ∃ nv av, e = .returned (.agg #[nv, av]) ∧ OwnN w' w.heap.size nv D ∧ OwnI w' w.heap.size av Q ∧ Below w.heap.size w w'
structure PtR (w : World) (D : List Nd) (Q : List Int) (nv av : Value) : Prop where
  nd : IsD D (.agg #[nv]) w
  at_ : ∃ b o c, av = .slice (some ⟨b, o, none⟩) Q.length c ∧ IRow w (some ⟨b, o, none⟩) Q
theorem PtR.later {w w' : World} {D : List Nd} {Q : List Int} {nv av : Value} (h : PtR w D Q nv av) (hb : Below w.heap.size w w') : PtR w' D Q nv av := by
  obtain ⟨h1, b, o, c, h2, h3⟩ := h
  exact ⟨h1.later _ _ _ _ hb, b, o, c, h2, h3.later hb⟩
theorem ptr_of {w : World} {base : Nat} {D : List Nd} {Q : List Int} {nv av : Value} (h : OwnN w base nv D) (k : OwnI w base av Q) (hq : 0 < Q.length) : PtR w D Q nv av := by
  obtain ⟨a, c, hv, hr⟩ := k.row
  obtain ⟨b, o, ha, -, -⟩ := hr 0 hq
  subst ha
  exact ⟨h.isD, b, o, c, hv, hr⟩
theorem OwnN.ir {base : Nat} {L : List Int} {w w' : World} {v : Value} {D : List Nd} (h : OwnN w base v D) (hr : IR base L w w') (hlo : base ≤ w.heap.size) : OwnN w' base v D := by
  obtain ⟨h0, ⟨hv, hn⟩ | ⟨g, cap, cur, hv, hb, hg, hrest⟩⟩ := h
  · exact ⟨h0, .inl ⟨hv, hn⟩⟩
  · exact ⟨h0, .inr ⟨g, cap, cur, hv, hb, (hr.out hlo).2.2.2 g cur 44 (by decide) hg, hrest⟩⟩
theorem row_num {w : World} {base : Nat} {v : Value} {L : List Int} (h : OwnI w base v L) : ∃ a c m, v = .slice a m c := by obtain ⟨a, c, hv, -⟩ := h.row; exact ⟨a, c, _, hv⟩
theorem row_nd {w : World} {base : Nat} {v : Value} {L : List Nd} (h : OwnN w base v L) : ∃ a c m, v = .slice a m c := by obtain ⟨a, c, hv, -⟩ := h.row; exact ⟨a, c, _, hv⟩
theorem own_low {w : World} {base base' : Nat} {v : Value} {L : List Int} (h : OwnI w base v L) (hb : base' ≤ base) : OwnI w base' v L := by
  obtain ⟨h0, ⟨hv, hn⟩ | ⟨g, cap, cur, hv, hg, hr⟩⟩ := h
  · exact ⟨h0, .inl ⟨hv, hn⟩⟩
  · exact ⟨h0, .inr ⟨g, cap, cur, hv, Nat.le_trans hb hg, hr⟩⟩
theorem part_set {w : World} {base br : Nat} {v x y : Value} {D : List Nd} {cs : Array Value} (h : OwnN w base v D) (hk : Blk w br cs 83) (p q : Nat) : OwnN ((w.setCell ⟨br, p, none⟩ x).setCell ⟨br, q, none⟩ y) base v D :=
  own_set (own_set h (own_typed h hk (by decide)) _) (own_typed h hk (by decide)) _
theorem part_seti {w : World} {base br : Nat} {v x y : Value} {D : List Int} {cs : Array Value} (h : OwnI w base v D) (hk : Blk w br cs 83) (p q : Nat) : OwnI ((w.setCell ⟨br, p, none⟩ x).setCell ⟨br, q, none⟩ y) base v D :=
  own_set (own_set h (own_typed h hk (by decide)) _) (own_typed h hk (by decide)) _
def IrS (w1 w : World) : Prop := Below w1.heap.size w1 w
theorem IrS.grow {w1 w w' : World} {L : List Int} (h : IrS w1 w) (hr : IR w1.heap.size L w w') : IrS w1 w' := h.trans (hr.out h.size).1
def VwN (base : Nat) (D : List Nd) (v : Value) (w : World) : Prop := base ≤ w.heap.size ∧ ∃ s, v = .agg #[s] ∧ OwnN w base s D
theorem VwN.grow {base : Nat} {L : List Int} (D : List Nd) (v : Value) (w w' : World) (h : VwN base D v w) (hr : IR base L w w') : VwN base D v w' := by
  obtain ⟨h0, s, h1, h2⟩ := h
  exact ⟨Nat.le_trans h0 (hr.out h0).1.size, s, h1, h2.ir hr h0⟩
def VwE (base : Nat) (v : Value) (w : World) : Prop := base ≤ w.heap.size ∧ ∃ g, v = .slice (some ⟨g, 0, none⟩) 0 0 ∧ base ≤ g ∧ Blk w g #[] 3
theorem VwE.grow {base : Nat} {L : List Int} (v : Value) (w w' : World) (h : VwE base v w) (hr : IR base L w w') : VwE base v w' := by
  obtain ⟨h0, g, h1, h2, h3⟩ := h
  exact ⟨Nat.le_trans h0 (hr.out h0).1.size, g, h1, h2, (hr.out h0).2.2.1 g _ h3 (Nat.zero_le _)⟩
def VwL (base : Nat) (L : List Int) (p : Nat) (v : Value) (w : World) : Prop := base ≤ w.heap.size ∧ OwnI w base v (L.take p)
theorem VwL.grow {base : Nat} {L : List Int} (p : Nat) (v : Value) (w w' : World) (h : VwL base L p v w) (hr : IR base L w w') : VwL base L p v w' := ⟨Nat.le_trans h.1 (hr.out h.1).1.size, (hr.out h.1).2.1 v p h.2⟩
def VwO (base : Nat) (x : Int) (v : Value) (w : World) : Prop := base ≤ w.heap.size ∧ ∃ g, v = .slice (some ⟨g, 0, none⟩) 1 1 ∧ Blk w g #[.int .i64 x] 3
theorem VwO.grow {base : Nat} {L : List Int} (x : Int) (v : Value) (w w' : World) (h : VwO base x v w) (hr : IR base L w w') : VwO base x v w' := by
  obtain ⟨h0, g, h1, h2⟩ := h
  exact ⟨Nat.le_trans h0 (hr.out h0).1.size, g, h1, (hr.out h0).2.2.1 g _ h2 (Nat.le_refl _)⟩
def VwP (base : Nat) (D : List Nd) (L : List Int) (p : Nat) (v : Value) (w : World) : Prop := base ≤ w.heap.size ∧ ∃ s u, v = .agg #[s, u] ∧ OwnN w base s D ∧ OwnI w base u (L.take p)
theorem VwP.grow {base : Nat} {L : List Int} (D : List Nd) (p : Nat) (v : Value) (w w' : World) (h : VwP base D L p v w) (hr : IR base L w w') : VwP base D L p v w' := by
  obtain ⟨h0, s, u, h1, h2, h3⟩ := h
  exact ⟨Nat.le_trans h0 (hr.out h0).1.size, s, u, h1, h2.ir hr h0, (hr.out h0).2.1 u p h3⟩
theorem one_row {w : World} {g : Nat} {x : Int} (h : Blk w g #[.int .i64 x] 3) : IRow w (some ⟨g, 0, none⟩) [x] := fun i hi => by
  obtain rfl : i = 0 := by simpa using hi
  exact ⟨g, 0, rfl, h.lt, by rw [h.cell]; rfl⟩
set_option maxHeartbeats 32000000 in
theorem rwrap5_any (kind lo hi x : Int) {D : List Nd} {Q : List Int} (hs : Sd D) (hq : 0 < Q.length) (hq2 : Q.length ≤ 100000000) {nv av : Value} (w : World) (h : PtR w D Q nv av) :
    Calls Tryz.prog 122 #[.int .i64 kind, .int .i64 lo, .int .i64 hi, .int .i64 x, .agg #[nv, av]] w (PtP w (wrapL kind lo hi D) (Q ++ [x])) := by
  obtain ⟨hnd, b, o, c, rfl, hir⟩ := h
  obtain ⟨an, kn, hkn, hnv, hrow⟩ := hnd
  injection hnv with hnv
  have hnv : nv = .slice an D.length kn := by simpa using hnv
  subst hnv
  obtain ⟨n, hn⟩ : ∃ n, D.length = n := ⟨_, rfl⟩
  obtain ⟨q, hqq⟩ : ∃ q, Q.length = q := ⟨_, rfl⟩
  rw [hn, hqq]
  have hb1 := (Below.refl w.heap.size w).alloc (Nat.le_refl _) (.cells #[.slice an n kn, .slice (some ⟨b, o, none⟩) q c] 83)
  have hk1 := Blk.new w #[.slice an n kn, .slice (some ⟨b, o, none⟩) q c] 83
  have hb2 := hb1.alloc hb1.size (.cells #[.slice none 0 0, .slice none 0 0] 83)
  have hk2 := Blk.new' (w := w.alloc (.cells #[.slice an n kn, .slice (some ⟨b, o, none⟩) q c] 83)) (b := w.heap.size + 1) (by simp) #[.slice none 0 0, .slice none 0 0] 83
  go_enter Tryz.func122, Tryz.ntmps122
  go_upto_region 1 with (fail)
  have HB := Lib.hid hb2
  have HBX := Lib.hid (hk1.later ((Below.refl _ _).alloc (Nat.le_refl _) (.cells #[.slice none 0 0, .slice none 0 0] 83)))
  have HRS := Lib.hid hk2
  have HND : Hid (IsD D (.agg #[.slice an n kn]) _) := ⟨an, kn, hkn, by rw [hn], hrow.later hb2⟩
  have HQ := Lib.hid (hir.later hb2)
  have HSD := Lib.hid hs
  have HQQ := Lib.hid hqq
  have HQP : Hid (0 < q ∧ q ≤ 100000000) := ⟨by omega, by omega⟩
  clear hb1 hb2 hk1 hk2 hrow hir hnv hkn hs hqq hq hq2
  generalize (w.alloc (.cells #[.slice an n kn, .slice (some ⟨b, o, none⟩) q c] 83)).alloc (.cells #[.slice none 0 0, .slice none 0 0] 83) = w3 at *
  have HBRL : Hid (w.heap.size ≤ w.heap.size + 1) := Nat.le_succ _
  generalize w.heap.size + 1 = br at *
  obtain ⟨bx, hbx⟩ : ∃ bx, bx = w.heap.size := ⟨_, rfl⟩
  rw [← hbx] at HBX ⊢
  have HBXW := Lib.hid hbx
  clear hbx
  obtain ⟨L, hL⟩ : ∃ L, L = Q ++ [x] := ⟨_, rfl⟩
  have HLQ : Hid (L.take q = Q ∧ L.take (q + 1) = L ∧ (L.drop 0).take q = Q ∧ (L.drop q).take 1 = [x] ∧ L.length = q + 1) := by
    have e := HQQ.out
    subst hL
    refine ⟨by rw [← e]; simp, by rw [← e]; exact List.take_of_length_le (by simp), by rw [← e]; simp, by rw [← e]; simp, by rw [← e]; simp⟩
  have HLE := Lib.hid hL
  clear hL
  obtain ⟨BASE, hBASE⟩ : ∃ B, B = w3.heap.size := ⟨_, rfl⟩
  have HBASE := Lib.hid hBASE
  have HR : Hid (∀ w w' : World, Below w.heap.size w w' → IR BASE L w w') := fun w w' h => IR.of w w' h
  have HS3 : Hid (IrS w3 w3) := Below.refl _ _
  have HLO : Hid (∀ w', IrS w3 w' → BASE ≤ w'.heap.size) := fun w' h => by rw [hBASE]; exact h.size
  have HWR : Hid (∀ w', IrS w3 w' → Calls Tryz.prog 20 #[.int .i64 kind, .int .i64 lo, .int .i64 hi, .agg #[.slice an n kn]] w' (DPost w' (wrapL kind lo hi D))) := fun w' h => (HND.out.later _ _ _ _ h).rwrap' HSD.out kind lo hi
  clear hBASE
  refine G.wp_region_stable_last (R := (IR BASE L)) HR.out (S := (IrS w3)) (hSt := fun _ _ h hr => h.grow (HBASE.out ▸ hr)) (plan := [[(0, none)], [(1, none)], [(2, none)], [(9, none)], [(14, some 3)], [(11, some 0), (12, some 1), (13, some 2), (15, some 4)], [], [(9, none)], [(18, some 7)], [(17, some 6), (19, some 8)], [(3, none)], [(21, some 10)], [(20, some 9), (22, some 11)], [(16, some 5), (23, some 12)]]) rfl (by kernel_rfl) (by kernel_rfl) (by kernel_rfl) (by kernel_rfl) ?hS ?_
  rotate_left
  simp only [List.dropLast]
  iterate 5 first
    | (refine G.chain_skip (by rfl) (by rfl) ?_)
    | (apply G.chain_want (by rfl)
       · intro act wx hS hr
         simp at hr
         have e0 := (HBX.out.later hS).cell 0
         have e1 := (HBX.out.later hS).cell 1
         simp at e0 e1
         go_simp
         (try go_ints)
         first
           | exact G.Done.same HR.out
      )
  (refine G.chain_rel (VwN BASE (wrapL kind lo hi D)) (VwN.grow _) (by rfl) ?_ ?_
   · intro act wx hS hr
     simp at hr
     have e0 := (HBX.out.later hS).cell 0
     have e1 := (HBX.out.later hS).cell 1
     simp at e0 e1
     all_goals go_simp
     ((with_reducible refine (HWR.out _ hS).mono ?_); intro e w' hp; obtain ⟨v, rfl, ho, hb⟩ := hp; exact G.Done.rel (HR.out _ _ hb) ⟨Nat.le_trans (HLO.out _ hS) hb.size, v, rfl, ho.weaken (HLO.out _ hS)⟩)
  )
  (refine G.chain_rel (VwE BASE) (VwE.grow) (by rfl) ?_ ?_
   · intro act wx hS hr
     simp at hr
     have e0 := (HBX.out.later hS).cell 0
     have e1 := (HBX.out.later hS).cell 1
     simp at e0 e1
     all_goals go_simp
     exact G.Done.rel (HR.out _ _ ((Below.refl _ _).alloc (Nat.le_refl _) _)) ⟨Nat.le_trans (HLO.out _ hS) (by simp), _, rfl, HLO.out _ hS, Blk.new _ _ _⟩
  )
  iterate 2 first
    | (refine G.chain_skip (by rfl) (by rfl) ?_)
    | (apply G.chain_want (by rfl)
       · intro act wx hS hr
         simp at hr
         have e0 := (HBX.out.later hS).cell 0
         have e1 := (HBX.out.later hS).cell 1
         simp at e0 e1
         go_simp
         (try go_ints)
         first
           | exact G.Done.same HR.out
      )
  (refine G.chain_rel (VwL BASE L q) (VwL.grow q) (by rfl) ?_ ?_
   · intro act wx hS hr
     simp at hr
     have e0 := (HBX.out.later hS).cell 0
     have e1 := (HBX.out.later hS).cell 1
     simp at e0 e1
     obtain ⟨⟨v, hr2, hlo, g0, rfl, hg0, hk⟩, hr3⟩ := hr
     refine wp_append_ints (.tmp 17) (.tmp 19) rfl BASE (.slice (some ⟨g0, 0, none⟩) 0 0) L 0 q (by have := HLQ.out.2.2.2.2; omega) HQP.out.1 (.inr ⟨g0, rfl⟩) (by simp [Act.eval, hr2]) (OwnI.empty hk hg0 L) b o c (by simp [Act.eval, hr3]) (by rw [HLQ.out.2.2.1]; exact HQ.out.later hS) (by have := HLQ.out.2.2.2.2; have := HQP.out.2; omega) (HLO.out _ hS) ?_
     intro v' w' q1 q2
     rw [Nat.zero_add] at q1
     exact G.Done.rel q2 ⟨Nat.le_trans (HLO.out _ hS) (q2.out (HLO.out _ hS)).1.size, q1⟩
     all_goals go_simp
  )
  iterate 1 first
    | (refine G.chain_skip (by rfl) (by rfl) ?_)
    | (apply G.chain_want (by rfl)
       · intro act wx hS hr
         simp at hr
         have e0 := (HBX.out.later hS).cell 0
         have e1 := (HBX.out.later hS).cell 1
         simp at e0 e1
         go_simp
         (try go_ints)
         first
           | exact G.Done.same HR.out
      )
  (refine G.chain_rel (VwO BASE x) (VwO.grow x) (by rfl) ?_ ?_
   · intro act wx hS hr
     simp at hr
     have e0 := (HBX.out.later hS).cell 0
     have e1 := (HBX.out.later hS).cell 1
     simp at e0 e1
     all_goals go_simp
     exact G.Done.rel (HR.out _ _ ((Below.refl _ _).alloc (Nat.le_refl _) _)) ⟨Nat.le_trans (HLO.out _ hS) (by simp), _, rfl, Blk.new _ _ _⟩
  )
  (refine G.chain_rel (VwL BASE L (q + 1)) (VwL.grow (q + 1)) (by rfl) ?_ ?_
   · intro act wx hS hr
     simp at hr
     have e0 := (HBX.out.later hS).cell 0
     have e1 := (HBX.out.later hS).cell 1
     simp at e0 e1
     obtain ⟨⟨v, hr2, hlo, ho⟩, v5, hr5, hlo5, g5, rfl, hk5⟩ := hr
     refine wp_append_ints (.tmp 20) (.tmp 22) rfl BASE v L q 1 (by have := HLQ.out.2.2.2.2; omega) (by omega) (.inl (by have := HQP.out.1; omega)) (by simp [Act.eval, hr2]) ho g5 0 1 (by simp [Act.eval, hr5]) (by rw [HLQ.out.2.2.2.1]; exact one_row hk5) (by have := HLQ.out.2.2.2.2; have := HQP.out.2; omega) (HLO.out _ hS) ?_
     intro v' w' q1 q2
     exact G.Done.rel q2 ⟨Nat.le_trans (HLO.out _ hS) (q2.out (HLO.out _ hS)).1.size, q1⟩
     all_goals go_simp
  )
  (refine G.chain_rel (VwP BASE (wrapL kind lo hi D) L (q + 1)) (VwP.grow _ (q + 1)) (by rfl) ?_ ?_
   · intro act wx hS hr
     simp at hr
     have e0 := (HBX.out.later hS).cell 0
     have e1 := (HBX.out.later hS).cell 1
     simp at e0 e1
     obtain ⟨⟨v, hr2, hlo, s, rfl, hs⟩, v5, hr5, hlo5, ho5⟩ := hr
     obtain ⟨a5, c5, m5, rfl⟩ := row_num ho5
     obtain ⟨a6, c6, m6, rfl⟩ := row_nd hs
     all_goals go_simp
     exact G.Done.rel (HR.out _ _ (Below.refl _ _)) ⟨hlo, _, _, rfl, hs, ho5⟩
  )
  show ∀ w', _ → _
  intro wz hz
  simp [Act.put]
  case hS => exact HS3.out
  intro y1 _ y2 _ y3 _ y4 _ y5 _ y6 hy
  obtain ⟨hlo, s, u, rfl, hs, hu⟩ := hy
  obtain ⟨a5, c5, m5, rfl⟩ := row_num hu
  obtain ⟨a6, c6, m6, rfl⟩ := row_nd hs
  have HRZ := Lib.hid (HRS.out.later hz)
  have HNZ : Hid (OwnN wz w.heap.size (.slice a6 m6 c6) (wrapL kind lo hi D)) := hs.weaken (by rw [HBASE.out]; exact HB.out.size)
  have HUZ : Hid (OwnI wz w.heap.size (.slice a5 m5 c5) L) := by
    rw [HLQ.out.2.1] at hu
    exact own_low hu (by rw [HBASE.out]; exact HB.out.size)
  have HBR : Hid (w.heap.size ≤ br) := HBRL.out
  have HBZ := Lib.hid (HB.out.trans (Below.mono hz HB.out.size))
  have z0 := HRZ.out.cell 0
  have z1 := HRZ.out.cell 1
  have f0 := HRZ.out.frozen 0
  have f1 := HRZ.out.frozen 1
  simp at z0 z1
  clear hz hlo hs hu
  go_wp2
  exact bodyPost_ret (v := .agg #[.slice a6 m6 c6, .slice a5 m5 c5]) (by simp [results, Tryz.results122, go_sem, z0, z1, f0, f1]) rfl (by rw [← HLE.out]; exact ⟨_, _, rfl, part_set HNZ.out HRZ.out _ _, part_seti HUZ.out HRZ.out _ _, (HBZ.out.setCell (p := ⟨br, 0, none⟩) HBR.out _).setCell (p := ⟨br, 1, none⟩) HBR.out _⟩)
end Go.Proofs.YtcgjmnhmhiddkaaGreatDoor
namespace Go.Proofs.YtcgjmnhmhiddkaaGreatDoor
open Go Go.RowKit
set_option linter.unusedVariables false
set_option linter.unusedSimpArgs false
def natI (l : List Nat) : List Int := l.map (fun n : Nat => (n : Int))
theorem natI_length (l : List Nat) : (natI l).length = l.length := List.length_map _
theorem natI_get {l : List Nat} {i : Nat} (h : i < l.length) : (natI l).getD i 0 = ((l.getD i 0 : Nat) : Int) := by
  unfold natI
  rw [List.getD_eq_getElem?_getD, List.getD_eq_getElem?_getD, List.getElem?_map, List.getElem?_eq_getElem h]; rfl
set_option maxHeartbeats 4000000 in
set_option maxRecDepth 100000 in
theorem nmost_any (n : Nat) (hn : n ≤ 1000) (w : World) : Calls Tryz.prog 96 #[.int .i64 (n : Int)] w (Pure w (.int .i64 ((min n 2 : Nat) : Int))) := by
  have e : ((min n 2 : Nat) : Int) = min (n : Int) 2 := by omega
  rw [e]
  clear e
  go_enter Tryz.func96, Tryz.ntmps96
  go_wp2
  go_ret
  exact ⟨rfl, rfl⟩
set_option maxHeartbeats 4000000 in
set_option maxRecDepth 100000 in
theorem npower_any (a : Nat) (k : Int) (w : World) : Calls Tryz.prog 123 #[.int .i64 (a : Int), .int .i64 k] w (Pure w (.int .i64 ((powW a k : Nat) : Int))) := by
  by_cases h : k = 0
  · subst h
    have hz : ((0 : Int) == 0) = true := rfl
    have e : powW a 0 = 1 := by unfold powW; rw [if_pos rfl]
    rw [e]
    go_enter Tryz.func123, Tryz.ntmps123
    go_wp2
    go_ret
    exact ⟨rfl, rfl⟩
  · have hz : (k == 0) = false := by rw [beq_eq_false_iff_ne]; exact h
    have e : powW a k = a := by unfold powW; rw [if_neg h]
    rw [e]
    clear h e
    go_enter Tryz.func123, Tryz.ntmps123
    go_wp2
    go_ret
    exact ⟨rfl, rfl⟩
set_option maxHeartbeats 4000000 in
set_option maxRecDepth 100000 in
theorem ntimes_any (a : Nat) (ha : a ≤ 2) (lo hi : Int) (h1 : -9223372036854775808 ≤ lo) (h2 : hi ≤ 9223372036854775807) (w : World) : Calls Tryz.prog 100 #[.int .i64 (a : Int), .int .i64 lo, .int .i64 hi] w (Pure w (.int .i64 ((tmsW a lo hi : Nat) : Int))) := by
  have CP := Lib.hid (npower_any a lo w)
  have CQ := Lib.hid (npower_any a (lo + 1) w)
  have hp := powW_le ha lo
  have hq := powW_le ha (lo + 1)
  by_cases h : lo < hi
  · have e : tmsW a lo hi = min (powW a lo + powW a (lo + 1)) 2 := by unfold tmsW; rw [if_pos h]
    rw [e]
    clear e
    generalize powW a lo = p at *
    generalize powW a (lo + 1) = q at *
    have CM := Lib.hid (nmost_any (p + q) (by omega) w)
    have hs : ((p + q : Nat) : Int) = (p : Int) + (q : Int) := by omega
    rw [hs] at CM
    clear hs
    go_enter Tryz.func100, Tryz.ntmps100
    go_wp2_with fail
    refine CP.out.mono ?_; rintro e w2 ⟨rfl, rfl⟩
    go_wp2_with fail
    refine CQ.out.mono ?_; rintro e w2 ⟨rfl, rfl⟩
    go_wp2_with fail
    refine CM.out.mono ?_; rintro e w2 ⟨rfl, rfl⟩
    go_wp2
    go_ret
    exact ⟨rfl, rfl⟩
  · have e : tmsW a lo hi = min (powW a lo) 2 := by unfold tmsW; rw [if_neg h]; rfl
    rw [e]
    clear e
    generalize powW a lo = p at *
    have hm : min p 2 = p := by omega
    have CM := Lib.hid (nmost_any p (by omega) w)
    rw [hm] at CM ⊢
    clear hm
    go_enter Tryz.func100, Tryz.ntmps100
    go_wp2_with fail
    refine CP.out.mono ?_; rintro e w2 ⟨rfl, rfl⟩
    go_wp2_with fail
    refine CM.out.mono ?_; rintro e w2 ⟨rfl, rfl⟩
    go_wp2
    go_ret
    exact ⟨rfl, rfl⟩
set_option maxHeartbeats 4000000 in
set_option maxRecDepth 100000 in
theorem npart_any (S : List Nat) (a : Int) (A : Option Addr) (c : Nat) (w : World) (hrow : IRow w A (natI S)) :
    Calls Tryz.prog 43 #[.slice A S.length c, .int .i64 a] w (Pure w (.int .i64 ((partS S a : Nat) : Int))) := by
  go_enter Tryz.func43, Tryz.ntmps43
  by_cases h0 : a < 0
  · have e : partS S a = 0 := by unfold partS; rw [if_neg (by omega)]
    rw [e]
    go_wp2
    go_ret
    exact ⟨rfl, rfl⟩
  · by_cases h1 : a < (S.length : Int)
    · obtain ⟨k, rfl⟩ : ∃ k : Nat, a = (k : Int) := ⟨a.toNat, by omega⟩
      have hk : k < S.length := by omega
      obtain ⟨b, off, rfl, -, hc⟩ := hrow k (by rw [natI_length]; exact hk)
      rw [natI_get hk] at hc
      have e : partS S (k : Int) = S.getD k 0 := by unfold partS; rw [if_pos (by omega)]; rfl
      rw [e]
      generalize S.getD k 0 = x at *
      have h2 : ¬ (k : Int) ≥ (S.length : Int) := by omega
      go_wp2
      go_ret
      exact ⟨rfl, rfl⟩
    · have e : partS S a = 0 := by unfold partS; rw [if_neg (by omega)]
      rw [e]
      have h2 : a ≥ (S.length : Int) := by omega
      go_wp2
      go_ret
      exact ⟨rfl, rfl⟩
def fnW (bw : Nat) : Value := .func (.func 63) #[] #[.pointer (some ⟨bw, 0, none⟩)]
structure KwS (bf bw : Nat) (A : Option Addr) (c : Nat) (S : List Nat) (w : World) : Prop where
  fn : Blk w bf #[fnW bw] 116
  box : Blk w bw #[.slice A S.length c] 46
  row : IRow w A (natI S)
theorem KwS.later {bf bw : Nat} {A : Option Addr} {c : Nat} {S : List Nat} {w w' : World} (h : KwS bf bw A c S w) (hb : Below w.heap.size w w') : KwS bf bw A c S w' := ⟨h.fn.later hb, h.box.later hb, h.row.later hb⟩
set_option maxHeartbeats 4000000 in
set_option maxRecDepth 100000 in
theorem told1_any {bf bw : Nat} {A : Option Addr} {c : Nat} {S : List Nat} (a : Int) {w : World} (h : KwS bf bw A c S w) :
    Calls Tryz.prog 63 #[.int .i64 a, .pointer (some ⟨bw, 0, none⟩)] w (Pure w (.int .i64 ((partS S a : Nat) : Int))) := by
  have e0 := h.box.cell 0
  simp at e0
  have CP := Lib.hid (npart_any S a A c w h.row)
  clear h
  go_enter Tryz.func63, Tryz.ntmps63
  go_wp2_with fail
  refine CP.out.mono ?_; rintro e w2 ⟨rfl, rfl⟩
  go_wp2
  go_ret
  exact ⟨rfl, rfl⟩
structure NnS (w0 : World) (n : Nd) (bf bw : Nat) (A : Option Addr) (c : Nat) (S : List Nat) (w : World) : Prop where
  bel : Below w0.heap.size w0 w
  box : Blk w w0.heap.size (ndC n) 44
  kw : KwS bf bw A c S w
theorem NnS.later {w0 w w' : World} {n : Nd} {bf bw : Nat} {A : Option Addr} {c : Nat} {S : List Nat} (h : NnS w0 n bf bw A c S w) (hb : Below w.heap.size w w') : NnS w0 n bf bw A c S w' := ⟨h.bel.trans (hb.mono h.bel.size), h.box.later hb, h.kw.later hb⟩
set_option maxHeartbeats 4000000 in
set_option maxRecDepth 100000 in
theorem nk1_any (n : Nd) (w : World) : Calls Tryz.prog 94 #[.agg (ndC n)] w (Ans w (.int .i64 ((1 : Nat) : Int))) := by
  have hb := (Below.refl w.heap.size w).alloc (Nat.le_refl _) (.cells (ndC n) 44)
  obtain ⟨kind, a, b, lo, hi, cls, text⟩ := n
  unfold ndC at hb ⊢
  simp only at hb ⊢
  have HB := Lib.hid hb
  clear hb
  go_enter Tryz.func94, Tryz.ntmps94
  go_wp2
  go_ret
  exact ⟨rfl, HB.out⟩
set_option maxHeartbeats 16000000 in
set_option maxRecDepth 100000 in
theorem nk2_any (n : Nd) (hk : n.kind = 4) {bf bw : Nat} {A : Option Addr} {c : Nat} {S : List Nat} (hS : ∀ x ∈ S, x ≤ 2) (hl : True) (w : World) (h : KwS bf bw A c S w) : Calls Tryz.prog 95 #[.agg (ndC n), .pointer (some ⟨bf, 0, none⟩)] w (Ans w (.int .i64 ((waysW n S : Nat) : Int))) := by
  have HS0 : Hid (NnS w n bf bw A c S (w.alloc (.cells (ndC n) 44))) :=
    ⟨(Below.refl _ _).alloc (Nat.le_refl _) _, Blk.new _ _ _, h.later ((Below.refl _ _).alloc (Nat.le_refl _) _)⟩
  clear h
  obtain ⟨kind, a, b, lo, hi, cls, text⟩ := n
  simp only at hk hl
  have hent := enters_of Tryz.func63 (by kernel_rfl) rfl
  have hpa := partS_two hS a
  have CA : Hid (∀ w', NnS w ⟨kind, a, b, lo, hi, cls, text⟩ bf bw A c S w' → Calls Tryz.prog 63 #[.int .i64 a, .pointer (some ⟨bw, 0, none⟩)] w' (Pure w' (.int .i64 ((partS S a : Nat) : Int)))) := fun w' h => told1_any a h.kw
  have CB : Hid (∀ w', NnS w ⟨kind, a, b, lo, hi, cls, text⟩ bf bw A c S w' → Calls Tryz.prog 63 #[.int .i64 b, .pointer (some ⟨bw, 0, none⟩)] w' (Pure w' (.int .i64 ((partS S b : Nat) : Int)))) := fun w' h => told1_any b h.kw
  have hpb := partS_two hS b
  have e : waysW ⟨kind, a, b, lo, hi, cls, text⟩ S = min (partS S a * partS S b) 2 := by subst hk; simp [waysW]
  rw [e]
  clear e hk
  generalize partS S a = x at *
  generalize partS S b = y at *
  unfold ndC at HS0 ⊢
  simp only at HS0 ⊢
  go_enter Tryz.func95, Tryz.ntmps95
  go_upto_region 1 with (fail)
  generalize w.alloc (.cells #[.int .i64 kind, .int .i64 a, .int .i64 b, .int .i64 lo, .int .i64 hi, .int .u64 (wd cls 0), .int .u64 (wd cls 1), .int .u64 (wd cls 2), .int .u64 (wd cls 3), .string (bs text)] 44) = w1 at *
  have hxy : x * y ≤ 4 := by exact Nat.mul_le_mul hpa hpb
  have hc : ((x * y : Nat) : Int) = (x : Int) * (y : Int) := by simp
  have CM : Hid (∀ w', Calls Tryz.prog 96 #[.int .i64 ((x : Int) * (y : Int))] w' (Pure w' (.int .i64 ((min (x * y) 2 : Nat) : Int)))) := fun w' => by rw [← hc]; exact nmost_any (x * y) (by omega) w'
  generalize min (x * y) 2 = z at *
  have hi1 : (x : Int) * (y : Int) ≤ 4 := by rw [← hc]; omega
  have hi0 : 0 ≤ (x : Int) * (y : Int) := by rw [← hc]; omega
  clear hc hxy
  refine wp_region_stable_tail 9 (S := (NnS w ⟨kind, a, b, lo, hi, cls, text⟩ bf bw A c S)) (hSt := fun _ _ h hb => h.later hb) (plan := [[(1, none)], [(2, none)], [(5, some 1)], [(4, some 0), (6, some 2)], [(1, none)], [(2, none)], [(9, some 5)], [(8, some 4), (10, some 6)], [(7, some 3), (11, some 7)]]) rfl rfl (by kernel_rfl) (by kernel_rfl) (by kernel_rfl) (by kernel_rfl) ?hS ?_
  rotate_left
  iterate 9 first
    | (refine chain_skip (by rfl) (by rfl) ?_)
    | (apply chain_want (by rfl)
       · intro act wx hS hr
         simp at hr
         obtain ⟨f0, f1, f2, f3, f4, f5, f6, f7, f8, f9⟩ := ten_cells hS.box
         have k0 := hS.kw.fn.cell 0
         simp [fnW] at k0
         go_simp
         (try go_ints)
         first
           | ((with_reducible refine (CA.out _ hS).mono ?_); rintro e w' ⟨rfl, rfl⟩; exact Done.same)
           | ((with_reducible refine (CB.out _ hS).mono ?_); rintro e w' ⟨rfl, rfl⟩; exact Done.same)
           | exact Done.same
      )
  show ∀ w', _ → _
  intro wz hz
  simp [Act.put]
  case hS => exact HS0.out
  have HB := Lib.hid hz.bel
  clear hz
  go_wp2_with fail
  refine (CM.out _).mono ?_
  rintro e w2 ⟨rfl, rfl⟩
  go_wp2
  go_ret
  exact ⟨rfl, HB.out⟩
set_option maxHeartbeats 16000000 in
set_option maxRecDepth 100000 in
theorem nk3_any (n : Nd) (hk : n.kind = 5) {bf bw : Nat} {A : Option Addr} {c : Nat} {S : List Nat} (hS : ∀ x ∈ S, x ≤ 2) (hl : True) (w : World) (h : KwS bf bw A c S w) : Calls Tryz.prog 97 #[.agg (ndC n), .pointer (some ⟨bf, 0, none⟩)] w (Ans w (.int .i64 ((waysW n S : Nat) : Int))) := by
  have HS0 : Hid (NnS w n bf bw A c S (w.alloc (.cells (ndC n) 44))) :=
    ⟨(Below.refl _ _).alloc (Nat.le_refl _) _, Blk.new _ _ _, h.later ((Below.refl _ _).alloc (Nat.le_refl _) _)⟩
  clear h
  obtain ⟨kind, a, b, lo, hi, cls, text⟩ := n
  simp only at hk hl
  have hent := enters_of Tryz.func63 (by kernel_rfl) rfl
  have hpa := partS_two hS a
  have CA : Hid (∀ w', NnS w ⟨kind, a, b, lo, hi, cls, text⟩ bf bw A c S w' → Calls Tryz.prog 63 #[.int .i64 a, .pointer (some ⟨bw, 0, none⟩)] w' (Pure w' (.int .i64 ((partS S a : Nat) : Int)))) := fun w' h => told1_any a h.kw
  have CB : Hid (∀ w', NnS w ⟨kind, a, b, lo, hi, cls, text⟩ bf bw A c S w' → Calls Tryz.prog 63 #[.int .i64 b, .pointer (some ⟨bw, 0, none⟩)] w' (Pure w' (.int .i64 ((partS S b : Nat) : Int)))) := fun w' h => told1_any b h.kw
  have hpb := partS_two hS b
  have e : waysW ⟨kind, a, b, lo, hi, cls, text⟩ S = min (partS S a + partS S b) 2 := by subst hk; simp [waysW]
  rw [e]
  clear e hk
  generalize partS S a = x at *
  generalize partS S b = y at *
  unfold ndC at HS0 ⊢
  simp only at HS0 ⊢
  go_enter Tryz.func97, Tryz.ntmps97
  go_upto_region 1 with (fail)
  generalize w.alloc (.cells #[.int .i64 kind, .int .i64 a, .int .i64 b, .int .i64 lo, .int .i64 hi, .int .u64 (wd cls 0), .int .u64 (wd cls 1), .int .u64 (wd cls 2), .int .u64 (wd cls 3), .string (bs text)] 44) = w1 at *
  have hxy : x + y ≤ 4 := by omega
  have hc : ((x + y : Nat) : Int) = (x : Int) + (y : Int) := by simp
  have CM : Hid (∀ w', Calls Tryz.prog 96 #[.int .i64 ((x : Int) + (y : Int))] w' (Pure w' (.int .i64 ((min (x + y) 2 : Nat) : Int)))) := fun w' => by rw [← hc]; exact nmost_any (x + y) (by omega) w'
  generalize min (x + y) 2 = z at *
  have hi1 : (x : Int) + (y : Int) ≤ 4 := by rw [← hc]; omega
  have hi0 : 0 ≤ (x : Int) + (y : Int) := by rw [← hc]; omega
  clear hc hxy
  refine wp_region_stable_tail 9 (S := (NnS w ⟨kind, a, b, lo, hi, cls, text⟩ bf bw A c S)) (hSt := fun _ _ h hb => h.later hb) (plan := [[(1, none)], [(2, none)], [(5, some 1)], [(4, some 0), (6, some 2)], [(1, none)], [(2, none)], [(9, some 5)], [(8, some 4), (10, some 6)], [(7, some 3), (11, some 7)]]) rfl rfl (by kernel_rfl) (by kernel_rfl) (by kernel_rfl) (by kernel_rfl) ?hS ?_
  rotate_left
  iterate 9 first
    | (refine chain_skip (by rfl) (by rfl) ?_)
    | (apply chain_want (by rfl)
       · intro act wx hS hr
         simp at hr
         obtain ⟨f0, f1, f2, f3, f4, f5, f6, f7, f8, f9⟩ := ten_cells hS.box
         have k0 := hS.kw.fn.cell 0
         simp [fnW] at k0
         go_simp
         (try go_ints)
         first
           | ((with_reducible refine (CA.out _ hS).mono ?_); rintro e w' ⟨rfl, rfl⟩; exact Done.same)
           | ((with_reducible refine (CB.out _ hS).mono ?_); rintro e w' ⟨rfl, rfl⟩; exact Done.same)
           | exact Done.same
      )
  show ∀ w', _ → _
  intro wz hz
  simp [Act.put]
  case hS => exact HS0.out
  have HB := Lib.hid hz.bel
  clear hz
  go_wp2_with fail
  refine (CM.out _).mono ?_
  rintro e w2 ⟨rfl, rfl⟩
  go_wp2
  go_ret
  exact ⟨rfl, HB.out⟩
set_option maxHeartbeats 16000000 in
set_option maxRecDepth 100000 in
theorem nk4_any (n : Nd) (hk : n.kind = 6) {bf bw : Nat} {A : Option Addr} {c : Nat} {S : List Nat} (hS : ∀ x ∈ S, x ≤ 2) (hl : True) (w : World) (h : KwS bf bw A c S w) : Calls Tryz.prog 98 #[.agg (ndC n), .pointer (some ⟨bf, 0, none⟩)] w (Ans w (.int .i64 ((waysW n S : Nat) : Int))) := by
  have HS0 : Hid (NnS w n bf bw A c S (w.alloc (.cells (ndC n) 44))) :=
    ⟨(Below.refl _ _).alloc (Nat.le_refl _) _, Blk.new _ _ _, h.later ((Below.refl _ _).alloc (Nat.le_refl _) _)⟩
  clear h
  obtain ⟨kind, a, b, lo, hi, cls, text⟩ := n
  simp only at hk hl
  have hent := enters_of Tryz.func63 (by kernel_rfl) rfl
  have hpa := partS_two hS a
  have CA : Hid (∀ w', NnS w ⟨kind, a, b, lo, hi, cls, text⟩ bf bw A c S w' → Calls Tryz.prog 63 #[.int .i64 a, .pointer (some ⟨bw, 0, none⟩)] w' (Pure w' (.int .i64 ((partS S a : Nat) : Int)))) := fun w' h => told1_any a h.kw
  have CB : Hid (∀ w', NnS w ⟨kind, a, b, lo, hi, cls, text⟩ bf bw A c S w' → Calls Tryz.prog 63 #[.int .i64 b, .pointer (some ⟨bw, 0, none⟩)] w' (Pure w' (.int .i64 ((partS S b : Nat) : Int)))) := fun w' h => told1_any b h.kw
  have hpb := partS_two hS b
  have e : waysW ⟨kind, a, b, lo, hi, cls, text⟩ S = min (1 + partS S a) 2 := by subst hk; simp [waysW]
  rw [e]
  clear e hk
  generalize partS S a = x at *
  generalize partS S b = y at *
  unfold ndC at HS0 ⊢
  simp only at HS0 ⊢
  go_enter Tryz.func98, Tryz.ntmps98
  go_upto_region 1 with (fail)
  generalize w.alloc (.cells #[.int .i64 kind, .int .i64 a, .int .i64 b, .int .i64 lo, .int .i64 hi, .int .u64 (wd cls 0), .int .u64 (wd cls 1), .int .u64 (wd cls 2), .int .u64 (wd cls 3), .string (bs text)] 44) = w1 at *
  have CM : Hid (∀ w', Calls Tryz.prog 96 #[.int .i64 (1 + (x : Int))] w' (Pure w' (.int .i64 ((min (1 + x) 2 : Nat) : Int)))) := fun w' => by rw [show (1 + (x : Int)) = ((1 + x : Nat) : Int) by omega]; exact nmost_any (1 + x) (by omega) w'
  generalize min (1 + x) 2 = z at *
  obtain ⟨f0, f1, f2, f3, f4, f5, f6, f7, f8, f9⟩ := ten_cells HS0.out.box
  have k0 := HS0.out.kw.fn.cell 0
  simp [fnW] at k0
  go_wp2_with fail
  refine (CA.out _ HS0.out).mono ?_
  rintro e w2 ⟨rfl, rfl⟩
  go_wp2_with fail
  refine (CM.out _).mono ?_
  rintro e w2 ⟨rfl, rfl⟩
  go_wp2
  go_ret
  exact ⟨rfl, HS0.out.bel⟩
set_option maxHeartbeats 16000000 in
set_option maxRecDepth 100000 in
theorem nk5_any (n : Nd) (hk : n.kind = 7) {bf bw : Nat} {A : Option Addr} {c : Nat} {S : List Nat} (hS : ∀ x ∈ S, x ≤ 2) (hl : -9223372036854775808 ≤ n.lo ∧ n.hi ≤ 9223372036854775807) (w : World) (h : KwS bf bw A c S w) : Calls Tryz.prog 99 #[.agg (ndC n), .pointer (some ⟨bf, 0, none⟩)] w (Ans w (.int .i64 ((waysW n S : Nat) : Int))) := by
  have HS0 : Hid (NnS w n bf bw A c S (w.alloc (.cells (ndC n) 44))) :=
    ⟨(Below.refl _ _).alloc (Nat.le_refl _) _, Blk.new _ _ _, h.later ((Below.refl _ _).alloc (Nat.le_refl _) _)⟩
  clear h
  obtain ⟨kind, a, b, lo, hi, cls, text⟩ := n
  simp only at hk hl
  have hent := enters_of Tryz.func63 (by kernel_rfl) rfl
  have hpa := partS_two hS a
  have CA : Hid (∀ w', NnS w ⟨kind, a, b, lo, hi, cls, text⟩ bf bw A c S w' → Calls Tryz.prog 63 #[.int .i64 a, .pointer (some ⟨bw, 0, none⟩)] w' (Pure w' (.int .i64 ((partS S a : Nat) : Int)))) := fun w' h => told1_any a h.kw
  have CB : Hid (∀ w', NnS w ⟨kind, a, b, lo, hi, cls, text⟩ bf bw A c S w' → Calls Tryz.prog 63 #[.int .i64 b, .pointer (some ⟨bw, 0, none⟩)] w' (Pure w' (.int .i64 ((partS S b : Nat) : Int)))) := fun w' h => told1_any b h.kw
  have hpb := partS_two hS b
  have e : waysW ⟨kind, a, b, lo, hi, cls, text⟩ S = tmsW (partS S a) lo hi := by subst hk; simp [waysW]
  rw [e]
  clear e hk
  generalize partS S a = x at *
  generalize partS S b = y at *
  unfold ndC at HS0 ⊢
  simp only at HS0 ⊢
  go_enter Tryz.func99, Tryz.ntmps99
  go_upto_region 1 with (fail)
  generalize w.alloc (.cells #[.int .i64 kind, .int .i64 a, .int .i64 b, .int .i64 lo, .int .i64 hi, .int .u64 (wd cls 0), .int .u64 (wd cls 1), .int .u64 (wd cls 2), .int .u64 (wd cls 3), .string (bs text)] 44) = w1 at *
  have CM : Hid (∀ w', Calls Tryz.prog 100 #[.int .i64 (x : Int), .int .i64 lo, .int .i64 hi] w' (Pure w' (.int .i64 ((tmsW x lo hi : Nat) : Int)))) := fun w' => ntimes_any x hpa lo hi hl.1 hl.2 w'
  generalize tmsW x lo hi = z at *
  refine wp_region_stable_tail 8 (S := (NnS w ⟨kind, a, b, lo, hi, cls, text⟩ bf bw A c S)) (hSt := fun _ _ h hb => h.later hb) (plan := [[(1, none)], [(2, none)], [(5, some 1)], [(4, some 0), (6, some 2)], [(2, none)], [(8, some 4)], [(2, none)], [(10, some 6)]]) rfl rfl (by kernel_rfl) (by kernel_rfl) (by kernel_rfl) (by kernel_rfl) ?hS ?_
  rotate_left
  iterate 8 first
    | (refine chain_skip (by rfl) (by rfl) ?_)
    | (apply chain_want (by rfl)
       · intro act wx hS hr
         simp at hr
         obtain ⟨f0, f1, f2, f3, f4, f5, f6, f7, f8, f9⟩ := ten_cells hS.box
         have k0 := hS.kw.fn.cell 0
         simp [fnW] at k0
         go_simp
         (try go_ints)
         first
           | ((with_reducible refine (CA.out _ hS).mono ?_); rintro e w' ⟨rfl, rfl⟩; exact Done.same)
           | exact Done.same
      )
  show ∀ w', _ → _
  intro wz hz
  simp [Act.put]
  case hS => exact HS0.out
  have HB := Lib.hid hz.bel
  clear hz
  go_wp2_with fail
  refine (CM.out _).mono ?_
  rintro e w2 ⟨rfl, rfl⟩
  go_wp2
  go_ret
  exact ⟨rfl, HB.out⟩
def mapEsK : List (Int × Value) → Nat → List MapEntry
  | [], _ => []
  | p :: l, i => { key := .int .i64 p.1, val := p.2, born := i } :: mapEsK l (i + 1)
theorem mapEsK_append : ∀ (l : List (Int × Value)) (k : Int) (v : Value) (i : Nat), mapEsK (l ++ [(k, v)]) i = mapEsK l i ++ [{ key := .int .i64 k, val := v, born := i + l.length }]
  | [], k, v, i => rfl
  | p :: l, k, v, i => by
    show _ :: mapEsK (l ++ [(k, v)]) (i + 1) = _
    rw [mapEsK_append l k v (i + 1)]
    simp [mapEsK]; omega
def IsMapK (w : World) (m : Nat) (l : List (Int × Value)) : Prop := w.heap[m]? = some (.map (mapEsK l 0).toArray l.length)
theorem IsMapK.lt {w : World} {m : Nat} {l : List (Int × Value)} (h : IsMapK w m l) : m < w.heap.size := (Array.getElem?_eq_some_iff.1 h).1
theorem IsMapK.later {w w' : World} {m : Nat} {l : List (Int × Value)} (h : IsMapK w m l) (hb : Below w.heap.size w w') : IsMapK w' m l := (hb.block m h.lt).trans h
def putMapK (w : World) (m : Nat) (l : List (Int × Value)) : World := { w with heap := w.heap.setIfInBounds m (.map (mapEsK l 0).toArray l.length) }
theorem putMapK_is {w : World} {m : Nat} (h : m < w.heap.size) (l' : List (Int × Value)) : IsMapK (putMapK w m l') m l' := by
  unfold IsMapK putMapK; simp [h]
theorem putMapK_other {w : World} {m b : Nat} (hb : b ≠ m) (l : List (Int × Value)) : (putMapK w m l).heap[b]? = w.heap[b]? := by
  unfold putMapK; simp [Ne.symm hb]
theorem putMapK_size (w : World) (m : Nat) (l : List (Int × Value)) : (putMapK w m l).heap.size = w.heap.size := by simp [putMapK]
theorem putMapK_below {B : Nat} {a w : World} {m : Nat} (h : Below B a w) (hm : B ≤ m) (l : List (Int × Value)) : Below B a (putMapK w m l) :=
  h.trans ⟨rfl, rfl, rfl, by rw [putMapK_size]; exact Nat.le_refl _, fun i hi => putMapK_other (by omega) l⟩
def findEK : List (Int × Value) → Int → Nat → Option (Nat × Value)
  | [], _, _ => none
  | p :: l, k, i => if p.1 = k then some (i, p.2) else findEK l k (i + 1)
theorem findNow_mapEsK (k : Int) : ∀ (l : List (Int × Value)) (i : Nat), Instr.findNow (.int .i64) (.int .i64 k) (mapEsK l i) i = some (findEK l k i)
  | [], i => rfl
  | p :: l, i => by
    unfold mapEsK Instr.findNow findEK
    simp only [Instr.sameNow, if_true]
    by_cases h : p.1 = k
    · have : (k == p.1) = true := by rw [beq_iff_eq]; exact h.symm
      rw [this, if_pos h]
    · have : (k == p.1) = false := by rw [beq_eq_false_iff_ne]; exact fun e => h e.symm
      rw [this, if_neg h]
      exact findNow_mapEsK k l (i + 1)
theorem keysK_free {e : Bool} {k : Int} (w : World) : (Instr.checkKey e 10000 3 (.int .i64 k)).run Tryz.prog w = .ok () w := by
  rw [show (10000 : Nat) = 9999 + 1 from rfl]
  unfold Instr.checkKey
  simp [run_underlying Tryz.underlying3, Result.andThen]
set_option maxRecDepth 100000
theorem run_lookup_way (w : World) (m : Nat) (l : List (Int × Value)) (k : Int) (hm : IsMapK w m l) :
    (Instr.lookup 114 (.map (some m)) (.int .i64 k) true).run Tryz.prog w = .ok (match findEK l k 0 with | some (_, v) => .tuple #[v, .bool true] | none => .tuple #[.nilFunc, .bool false]) w := by
  unfold IsMapK at hm
  have hf := findNow_mapEsK k l 0
  have hz := Tryz.zeroValue117
  simp only [Instr.lookup, Sem.run_bind, run_underlying Tryz.underlying114, Result.andThen, getObj, Sem.run, hm, keysK_free, Instr.findKey, run_underlying Tryz.underlying3, hf]
  rw [show (Sem.run Tryz.prog (pure (mapEsK l 0).toArray) w) = .ok (mapEsK l 0).toArray w from rfl]
  simp only [hf]
  cases h : findEK l k 0 with
  | none => simp [Sem.run_bind, hz, Result.andThen]
  | some p => obtain ⟨i, v⟩ := p; rfl
theorem run_update_way (w : World) (m : Nat) (l : List (Int × Value)) (k : Int) (v : Value) (hm : IsMapK w m l) (hk : findEK l k 0 = none) :
    (Instr.mapUpdate 114 (.map (some m)) (.int .i64 k) v).run Tryz.prog w = .ok () (putMapK w m (l ++ [(k, v)])) := by
  have hlt := hm.lt
  unfold IsMapK at hm
  have hf := findNow_mapEsK k l 0
  rw [hk] at hf
  simp only [Instr.mapUpdate, Sem.run_bind, run_underlying Tryz.underlying114, Result.andThen, getObj, Sem.run, hm, keysK_free, Instr.findKey, run_underlying Tryz.underlying3, hf]
  simp only [setObj, Sem.run, hm]
  unfold putMapK
  rw [mapEsK_append]
  simp [Sem.run, hm]
theorem blk_putW {w : World} {m b : Nat} {vs : Array Value} {t : TypeId} {l l' : List (Int × Value)} (hm : IsMapK w m l) (h : Blk w b vs t) : Blk (putMapK w m l') b vs t := by
  have hne : b ≠ m := fun e => by
    unfold Blk at h; unfold IsMapK at hm
    rw [e, hm] at h; cases h
  exact (putMapK_other hne l').trans h
theorem put_stepW {w0 w : World} {m : Nat} {l l' : List (Int × Value)} (hb : Below w0.heap.size w0 w) (hlow : w0.heap.size ≤ m) (hm : IsMapK w m l) : Below w0.heap.size w0 (putMapK w m l') ∧ IsMapK (putMapK w m l') m l' := ⟨putMapK_below hb hlow l', putMapK_is hm.lt l'⟩
def wL (bf : Nat) : List (Int × Value) := [(1, (.func (.func 94) #[] #[] : Value)), (4, (.func (.func 95) #[] #[.pointer (some ⟨bf, 0, none⟩)] : Value)), (5, (.func (.func 97) #[] #[.pointer (some ⟨bf, 0, none⟩)] : Value)), (6, (.func (.func 98) #[] #[.pointer (some ⟨bf, 0, none⟩)] : Value)), (7, (.func (.func 99) #[] #[.pointer (some ⟨bf, 0, none⟩)] : Value))]
structure NkS (w0 : World) (bf bw m : Nat) (l : List (Int × Value)) (w : World) : Prop where
  bel : Below w0.heap.size w0 w
  fn : Blk w bf #[fnW bw] 116
  map : IsMapK w m l
  low : w0.heap.size ≤ m
theorem NkS.put {w0 w : World} {bf bw m : Nat} {l : List (Int × Value)} (h : NkS w0 bf bw m l w) (l' : List (Int × Value)) : NkS w0 bf bw m l' (putMapK w m l') :=
  ⟨(put_stepW h.bel h.low h.map).1, blk_putW h.map h.fn, (put_stepW h.bel h.low h.map).2, h.low⟩
set_option maxHeartbeats 16000000 in
theorem nkinds_any (bw : Nat) (w : World) : Calls Tryz.prog 62 #[.func (.func 63) #[] #[.pointer (some ⟨bw, 0, none⟩)]] w (fun e w' => ∃ m bf, e = .returned (.map (some m)) ∧ IsMapK w' m (wL bf) ∧ Blk w' bf #[fnW bw] 116 ∧ Below w.heap.size w w') := by
  have hmm := @run_makeMap Tryz.prog
  have hb1 := (Below.refl w.heap.size w).alloc (Nat.le_refl _) (.cells #[fnW bw] 116)
  have hf1 := Blk.new w #[fnW bw] 116
  unfold fnW at hb1 hf1
  have HB1 := Lib.hid hb1
  have HF1 := Lib.hid hf1
  clear hb1 hf1
  go_enter Tryz.func62, Tryz.ntmps62
  go_upto_region 1 with (fail)
  generalize w.alloc (.cells #[.func (.func 63) #[] #[.pointer (some ⟨bw, 0, none⟩)]] 116) = w1 at *
  have HLOW : Hid (w.heap.size ≤ w1.heap.size) := HB1.out.size
  have HS0 : Hid (NkS w w.heap.size bw w1.heap.size [] (w1.alloc (.map #[] 0))) := ⟨HB1.out.trans ((Below.refl _ _).alloc HLOW.out _), HF1.out.alloc _, by unfold IsMapK mapEsK; show (w1.heap.push _)[w1.heap.size]? = _; simp, HLOW.out⟩
  obtain ⟨u1, hu1⟩ : ∃ u, u = putMapK (w1.alloc (.map #[] 0)) w1.heap.size [(1, (.func (.func 94) #[] #[] : Value))] := ⟨_, rfl⟩
  have hx1 : (Instr.mapUpdate 114 (.map (some w1.heap.size)) (.int .i64 1) (.func (.func 94) #[] #[] : Value)).run Tryz.prog (w1.alloc (.map #[] 0)) = .ok () u1 := by
    rw [hu1]; exact run_update_way (w1.alloc (.map #[] 0)) w1.heap.size [] 1 (.func (.func 94) #[] #[] : Value) HS0.out.map rfl
  have HS1 : Hid (NkS w w.heap.size bw w1.heap.size [(1, (.func (.func 94) #[] #[] : Value))] u1) := by rw [hu1]; exact HS0.out.put _
  clear hu1
  obtain ⟨u2, hu2⟩ : ∃ u, u = putMapK u1 w1.heap.size [(1, (.func (.func 94) #[] #[] : Value)), (4, (.func (.func 95) #[] #[.pointer (some ⟨w.heap.size, 0, none⟩)] : Value))] := ⟨_, rfl⟩
  have hx2 : (Instr.mapUpdate 114 (.map (some w1.heap.size)) (.int .i64 4) (.func (.func 95) #[] #[.pointer (some ⟨w.heap.size, 0, none⟩)] : Value)).run Tryz.prog u1 = .ok () u2 := by
    rw [hu2]; exact run_update_way u1 w1.heap.size [(1, (.func (.func 94) #[] #[] : Value))] 4 (.func (.func 95) #[] #[.pointer (some ⟨w.heap.size, 0, none⟩)] : Value) HS1.out.map rfl
  have HS2 : Hid (NkS w w.heap.size bw w1.heap.size [(1, (.func (.func 94) #[] #[] : Value)), (4, (.func (.func 95) #[] #[.pointer (some ⟨w.heap.size, 0, none⟩)] : Value))] u2) := by rw [hu2]; exact HS1.out.put _
  clear hu2
  obtain ⟨u3, hu3⟩ : ∃ u, u = putMapK u2 w1.heap.size [(1, (.func (.func 94) #[] #[] : Value)), (4, (.func (.func 95) #[] #[.pointer (some ⟨w.heap.size, 0, none⟩)] : Value)), (5, (.func (.func 97) #[] #[.pointer (some ⟨w.heap.size, 0, none⟩)] : Value))] := ⟨_, rfl⟩
  have hx3 : (Instr.mapUpdate 114 (.map (some w1.heap.size)) (.int .i64 5) (.func (.func 97) #[] #[.pointer (some ⟨w.heap.size, 0, none⟩)] : Value)).run Tryz.prog u2 = .ok () u3 := by
    rw [hu3]; exact run_update_way u2 w1.heap.size [(1, (.func (.func 94) #[] #[] : Value)), (4, (.func (.func 95) #[] #[.pointer (some ⟨w.heap.size, 0, none⟩)] : Value))] 5 (.func (.func 97) #[] #[.pointer (some ⟨w.heap.size, 0, none⟩)] : Value) HS2.out.map rfl
  have HS3 : Hid (NkS w w.heap.size bw w1.heap.size [(1, (.func (.func 94) #[] #[] : Value)), (4, (.func (.func 95) #[] #[.pointer (some ⟨w.heap.size, 0, none⟩)] : Value)), (5, (.func (.func 97) #[] #[.pointer (some ⟨w.heap.size, 0, none⟩)] : Value))] u3) := by rw [hu3]; exact HS2.out.put _
  clear hu3
  obtain ⟨u4, hu4⟩ : ∃ u, u = putMapK u3 w1.heap.size [(1, (.func (.func 94) #[] #[] : Value)), (4, (.func (.func 95) #[] #[.pointer (some ⟨w.heap.size, 0, none⟩)] : Value)), (5, (.func (.func 97) #[] #[.pointer (some ⟨w.heap.size, 0, none⟩)] : Value)), (6, (.func (.func 98) #[] #[.pointer (some ⟨w.heap.size, 0, none⟩)] : Value))] := ⟨_, rfl⟩
  have hx4 : (Instr.mapUpdate 114 (.map (some w1.heap.size)) (.int .i64 6) (.func (.func 98) #[] #[.pointer (some ⟨w.heap.size, 0, none⟩)] : Value)).run Tryz.prog u3 = .ok () u4 := by
    rw [hu4]; exact run_update_way u3 w1.heap.size [(1, (.func (.func 94) #[] #[] : Value)), (4, (.func (.func 95) #[] #[.pointer (some ⟨w.heap.size, 0, none⟩)] : Value)), (5, (.func (.func 97) #[] #[.pointer (some ⟨w.heap.size, 0, none⟩)] : Value))] 6 (.func (.func 98) #[] #[.pointer (some ⟨w.heap.size, 0, none⟩)] : Value) HS3.out.map rfl
  have HS4 : Hid (NkS w w.heap.size bw w1.heap.size [(1, (.func (.func 94) #[] #[] : Value)), (4, (.func (.func 95) #[] #[.pointer (some ⟨w.heap.size, 0, none⟩)] : Value)), (5, (.func (.func 97) #[] #[.pointer (some ⟨w.heap.size, 0, none⟩)] : Value)), (6, (.func (.func 98) #[] #[.pointer (some ⟨w.heap.size, 0, none⟩)] : Value))] u4) := by rw [hu4]; exact HS3.out.put _
  clear hu4
  obtain ⟨u5, hu5⟩ : ∃ u, u = putMapK u4 w1.heap.size [(1, (.func (.func 94) #[] #[] : Value)), (4, (.func (.func 95) #[] #[.pointer (some ⟨w.heap.size, 0, none⟩)] : Value)), (5, (.func (.func 97) #[] #[.pointer (some ⟨w.heap.size, 0, none⟩)] : Value)), (6, (.func (.func 98) #[] #[.pointer (some ⟨w.heap.size, 0, none⟩)] : Value)), (7, (.func (.func 99) #[] #[.pointer (some ⟨w.heap.size, 0, none⟩)] : Value))] := ⟨_, rfl⟩
  have hx5 : (Instr.mapUpdate 114 (.map (some w1.heap.size)) (.int .i64 7) (.func (.func 99) #[] #[.pointer (some ⟨w.heap.size, 0, none⟩)] : Value)).run Tryz.prog u4 = .ok () u5 := by
    rw [hu5]; exact run_update_way u4 w1.heap.size [(1, (.func (.func 94) #[] #[] : Value)), (4, (.func (.func 95) #[] #[.pointer (some ⟨w.heap.size, 0, none⟩)] : Value)), (5, (.func (.func 97) #[] #[.pointer (some ⟨w.heap.size, 0, none⟩)] : Value)), (6, (.func (.func 98) #[] #[.pointer (some ⟨w.heap.size, 0, none⟩)] : Value))] 7 (.func (.func 99) #[] #[.pointer (some ⟨w.heap.size, 0, none⟩)] : Value) HS4.out.map rfl
  have HS5 : Hid (NkS w w.heap.size bw w1.heap.size [(1, (.func (.func 94) #[] #[] : Value)), (4, (.func (.func 95) #[] #[.pointer (some ⟨w.heap.size, 0, none⟩)] : Value)), (5, (.func (.func 97) #[] #[.pointer (some ⟨w.heap.size, 0, none⟩)] : Value)), (6, (.func (.func 98) #[] #[.pointer (some ⟨w.heap.size, 0, none⟩)] : Value)), (7, (.func (.func 99) #[] #[.pointer (some ⟨w.heap.size, 0, none⟩)] : Value))] u5) := by rw [hu5]; exact HS4.out.put _
  clear hu5
  go_wp2
  go_ret
  exact ⟨_, _, rfl, HS5.out.map, HS5.out.fn, HS5.out.bel⟩
theorem findW (bf : Nat) (k : Int) : findEK (wL bf) k 0 = if k = 1 then some (0, .func (.func 94) #[] #[]) else if k = 4 then some (1, .func (.func 95) #[] #[.pointer (some ⟨bf, 0, none⟩)]) else if k = 5 then some (2, .func (.func 97) #[] #[.pointer (some ⟨bf, 0, none⟩)]) else if k = 6 then some (3, .func (.func 98) #[] #[.pointer (some ⟨bf, 0, none⟩)]) else if k = 7 then some (4, .func (.func 99) #[] #[.pointer (some ⟨bf, 0, none⟩)]) else none := by
  simp only [wL, findEK, eq_comm (a := k)]
theorem way_at (n : Nd) (hn : IntOk n) (m bf bw : Nat) (w : World) (hm : IsMapK w m (wL bf)) : (∃ fK binds, (Instr.lookup 114 (.map (some m)) (.int .i64 n.kind) true).run Tryz.prog w = .ok (.tuple #[.func (.func fK) #[] binds, .bool true]) w ∧
    (∀ args w, (callFunc fK args).run Tryz.prog w = .ok (.enter fK args) w) ∧ ∀ (A : Option Addr) (c : Nat) (S : List Nat) (w' : World), (∀ x ∈ S, x ≤ 2) → KwS bf bw A c S w' → Calls Tryz.prog fK (#[.agg (ndC n)] ++ binds) w' (Ans w' (.int .i64 ((waysW n S : Nat) : Int)))) ∨
    ((Instr.lookup 114 (.map (some m)) (.int .i64 n.kind) true).run Tryz.prog w = .ok (.tuple #[.nilFunc, .bool false]) w ∧ ∀ S, waysW n S = 0) := by
  have hl := run_lookup_way w m (wL bf) n.kind hm
  rw [findW] at hl
  by_cases h1 : n.kind = 1
  · rw [if_pos h1] at hl
    exact .inl ⟨_, #[], hl, enters_of Tryz.func94 (by kernel_rfl) rfl, fun A c S w' hS hk => by
      have e : waysW n S = 1 := by unfold waysW; rw [if_pos h1]
      rw [e]; exact nk1_any n w'⟩
  rw [if_neg h1] at hl
  by_cases h4 : n.kind = 4
  · rw [if_pos h4] at hl
    exact .inl ⟨_, #[.pointer (some ⟨bf, 0, none⟩)], hl, enters_of Tryz.func95 (by kernel_rfl) rfl, fun A c S w' hS hk => nk2_any n h4 hS trivial w' hk⟩
  rw [if_neg h4] at hl
  by_cases h5 : n.kind = 5
  · rw [if_pos h5] at hl
    exact .inl ⟨_, #[.pointer (some ⟨bf, 0, none⟩)], hl, enters_of Tryz.func97 (by kernel_rfl) rfl, fun A c S w' hS hk => nk3_any n h5 hS trivial w' hk⟩
  rw [if_neg h5] at hl
  by_cases h6 : n.kind = 6
  · rw [if_pos h6] at hl
    exact .inl ⟨_, #[.pointer (some ⟨bf, 0, none⟩)], hl, enters_of Tryz.func98 (by kernel_rfl) rfl, fun A c S w' hS hk => nk4_any n h6 hS trivial w' hk⟩
  rw [if_neg h6] at hl
  by_cases h7 : n.kind = 7
  · rw [if_pos h7] at hl
    exact .inl ⟨_, #[.pointer (some ⟨bf, 0, none⟩)], hl, enters_of Tryz.func99 (by kernel_rfl) rfl, fun A c S w' hS hk => nk5_any n h7 hS hn w' hk⟩
  rw [if_neg h7] at hl
  exact .inr ⟨hl, fun S => by unfold waysW; rw [if_neg h1, if_neg h4, if_neg h5, if_neg h6, if_neg h7]⟩
end Go.Proofs.YtcgjmnhmhiddkaaGreatDoor
