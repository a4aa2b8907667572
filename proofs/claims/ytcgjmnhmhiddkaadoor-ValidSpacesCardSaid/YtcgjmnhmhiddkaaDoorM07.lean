/- Descriptions out of tokens: what comes of the parser, by how much it has to do it with; what each reading stops at. -/
import Derived.Test.YtcgjmnhmhiddkaaDoorM06
namespace Go.Proofs.YtcgjmnhmhiddkaaDoor
open Go
set_option linter.unusedVariables false
set_option linter.unusedSimpArgs false

end Go.Proofs.YtcgjmnhmhiddkaaDoor
/- Descriptions out of tokens: tokens that are read elsewhere, with more open ahead of them and more nodes laid, are read as before. -/
namespace Go.Proofs.YtcgjmnhmhiddkaaDoor
open Go
set_option linter.unusedVariables false
set_option linter.unusedSimpArgs false

/-- The same token, at a place of its own. -/
def LikeT (x y : Tk) : Prop := y.kind = x.kind ∧ y.lo = x.lo ∧ y.hi = x.hi ∧ y.cls = x.cls ∧ y.text = x.text
end Go.Proofs.YtcgjmnhmhiddkaaDoor
/- Descriptions out of tokens: what is in brackets, behind a frame, and an or and a row of two. -/
namespace Go.Proofs.YtcgjmnhmhiddkaaDoor
open Go
set_option linter.unusedVariables false
set_option linter.unusedSimpArgs false

def LikeL (l l2 : List Tk) : Prop := ∀ i, LikeT (tkAt l i) (tkAt l2 i)
end Go.Proofs.YtcgjmnhmhiddkaaDoor
/- Tokens at other places are parsed alike, faults and all: plain mathematics. -/
namespace Go.Proofs.YtcgjmnhmhiddkaaDoor
open Go
set_option linter.unusedVariables false
set_option linter.unusedSimpArgs false

/-- A place: none, or a token's. -/
def plT (l : List Tk) (q : Option Nat) : Int := match q with
  | none => -1
  | some q => (tkAt l q).at_
structure SmS (l l2 : List Tk) (s s2 : PS) : Prop where
  read : s2.read = s.read
  count : s2.count = s.count
  nodes : s2.nodes = s.nodes
  opn : ∃ os : List Nat, (∀ q ∈ os, q < l.length) ∧ s.opn = os.map (fun q => (tkAt l q).at_) ∧ s2.opn = os.map (fun q => (tkAt l2 q).at_)
  ats : ∃ qs : List (Option Nat), (∀ q, some q ∈ qs → q < l.length) ∧ s.ats = qs.map (plT l) ∧ s2.ats = qs.map (plT l2)
def SmR (l l2 : List Tk) : PR → PR → Prop
  | .ok k t, .ok k2 t2 => k2 = k ∧ SmS l l2 t t2
  | .bad e p, .bad e2 p2 => e2 = e ∧ ∃ q, q < l.length ∧ p = (tkAt l q).at_ ∧ p2 = (tkAt l2 q).at_
  | .out, .out => True
  | _, _ => False
theorem SmR.bind {l l2 : List Tk} {r r2 : PR} {f f2 : Int → PS → PR} (h : SmR l l2 r r2) (k : ∀ j u u2, r = .ok j u → SmS l l2 u u2 → SmR l l2 (f j u) (f2 j u2)) : SmR l l2 (r.bind f) (r2.bind f2) := by
  cases r with
  | ok j u =>
    cases r2 with
    | ok j2 u2 => obtain ⟨rfl, h⟩ := h; exact k _ _ _ rfl h
    | bad e p => exact h.elim
    | out => exact h.elim
  | bad e p =>
    cases r2 with
    | ok j2 u2 => exact h.elim
    | bad e2 p2 => exact h
    | out => exact h.elim
  | out =>
    cases r2 with
    | ok j2 u2 => exact h.elim
    | bad e2 p2 => exact h.elim
    | out => trivial
theorem SmS.next {l l2 : List Tk} {s s2 : PS} (h : SmS l l2 s s2) : SmS l l2 s.next s2.next := ⟨by simp only [PS.next]; rw [h.read], h.count, h.nodes, h.opn, h.ats⟩
theorem SmS.lay {l l2 : List Tk} {s s2 : PS} (h : SmS l l2 s s2) (n : Nd) (q : Option Nat) (hq : ∀ p, q = some p → p < l.length) {x y : Int} (hx : plT l q = x) (hy : plT l2 q = y) : SmS l l2 (s.lay n x) (s2.lay n y) := by
  subst hx; subst hy
  obtain ⟨qs, h1, h2, h3⟩ := h.ats
  unfold PS.lay
  rw [h.count]
  split
  · exact ⟨h.read, rfl, by show s2.nodes ++ _ = s.nodes ++ _; rw [h.nodes], h.opn, qs ++ [q], fun p hp => by
      rcases List.mem_append.1 hp with hp | hp
      · exact h1 p hp
      · exact hq p (List.mem_singleton.1 hp).symm, by show s.ats ++ _ = _; rw [h2, List.map_append]; rfl, by show s2.ats ++ _ = _; rw [h3, List.map_append]; rfl⟩
  · exact ⟨h.read, rfl, h.nodes, h.opn, h.ats⟩
theorem SmS.lay0 {l l2 : List Tk} {s s2 : PS} (h : SmS l l2 s s2) (n : Nd) : SmS l l2 (s.lay n (-1)) (s2.lay n (-1)) := h.lay n none (fun p hp => by cases hp) rfl rfl
theorem fault_smr {l l2 : List Tk} {s s2 : PS} (hl : LikeL l l2) (h : SmS l l2 s s2) (hr : s.read < l.length) : SmR l l2 (faultP l s) (faultP l2 s2) := by
  obtain ⟨os, h1, h2, h3⟩ := h.opn
  unfold faultP
  rw [h.read, (hl s.read).1, h2, h3, List.getLast?_map, List.getLast?_map]
  cases hk : os.getLast? with
  | none =>
    simp only [Option.map_none]
    split
    · rename_i e; cases e
    · exact ⟨rfl, _, hr, rfl, rfl⟩
  | some q =>
    simp only [Option.map_some]
    by_cases h10 : (tkAt l s.read).kind = 10
    · rw [h10]; exact ⟨rfl, q, h1 q (List.mem_of_getLast? hk), rfl, rfl⟩
    · split
      · rename_i e1 _; exact absurd e1 h10
      · split
        · rename_i e1 _; exact absurd e1 h10
        · exact ⟨rfl, _, hr, rfl, rfl⟩
theorem run_smr {l l2 : List Tk} (he : TEnds l) (hl : LikeL l l2) : ∀ (n : Nat) (m : Md) (s s2 : PS), SmS l l2 s s2 → s.read < l.length → SmR l l2 (run l n m s) (run l2 n m s2)
  | 0, _, _, _, _, _ => trivial
  | n + 1, .or, s, s2, h, hr => (run_smr he hl n .row s s2 h hr).bind fun a u u2 e hu => run_smr he hl n (.orL a) u u2 hu (run_range he n _ _ _ _ e hr)
  | n + 1, .orL a, s, s2, h, hr => by
    simp only [run]
    rw [h.read, (hl s.read).1]
    split
    · rename_i hk
      refine (run_smr he hl n .row s.next s2.next h.next (he.step (by rw [hk]; decide))).bind fun b u u2 e hu => ?_
      rw [hu.count]
      exact run_smr he hl n _ _ _ (hu.lay0 _) (by rw [(lay_read _ _ _).1]; exact run_range he n _ _ _ _ e (he.step (by rw [hk]; decide)))
    · exact ⟨rfl, h⟩
  | n + 1, .row, s, s2, h, hr => (run_smr he hl n .post s s2 h hr).bind fun a u u2 e hu => run_smr he hl n (.rowL a) u u2 hu (run_range he n _ _ _ _ e hr)
  | n + 1, .rowL a, s, s2, h, hr => by
    simp only [run]
    rw [h.read, (hl s.read).1]
    split
    · refine (run_smr he hl n .post s s2 h hr).bind fun b u u2 e hu => ?_
      rw [hu.count]
      exact run_smr he hl n _ _ _ (hu.lay0 _) (by rw [(lay_read _ _ _).1]; exact run_range he n _ _ _ _ e hr)
    · exact ⟨rfl, h⟩
  | n + 1, .post, s, s2, h, hr => (run_smr he hl n .atom s s2 h hr).bind fun a u u2 e hu => run_smr he hl n (.postL a) u u2 hu (run_range he n _ _ _ _ e hr)
  | n + 1, .postL a, s, s2, h, hr => by
    simp only [run]
    obtain ⟨e1, e2, e3, e4, e5⟩ := hl s.read
    rw [h.read, e1, e2, e3, h.count]
    split
    · rename_i hk
      exact run_smr he hl n _ _ _ (h.lay _ (some s.read) (fun p hp => by cases hp; exact hr) rfl rfl).next (by simp only [PS.next]; rw [(lay_read _ _ _).1]; exact he.step (by rw [hk]; decide))
    · split
      · rename_i hk
        exact run_smr he hl n _ _ _ (h.lay _ (some s.read) (fun p hp => by cases hp; exact hr) rfl rfl).next (by simp only [PS.next]; rw [(lay_read _ _ _).1]; exact he.step (by rw [hk]; decide))
      · exact ⟨rfl, h⟩
  | n + 1, .atom, s, s2, h, hr => by
    simp only [run]
    obtain ⟨e1, e2, e3, e4, e5⟩ := hl s.read
    rw [h.read, e1, e4, e5]
    split
    · exact ⟨by show ((s2.next.count : Nat) : Int) = _; rw [h.next.count], h.next.lay0 _⟩
    · split
      · exact ⟨by show ((s2.next.count : Nat) : Int) = _; rw [h.next.count], h.next.lay0 _⟩
      · split
        · exact run_smr he hl n _ _ _ h hr
        · split
          · rename_i hk
            refine (run_smr he hl n .group s.next s2.next h.next (he.step (by rw [hk]; decide))).bind fun b u u2 e hu => ?_
            exact ⟨by rw [hu.count], hu.lay0 _⟩
          · split
            · rename_i hk
              refine (run_smr he hl n .group s.next s2.next h.next (he.step (by rw [hk]; decide))).bind fun b u u2 e hu => ?_
              exact ⟨by rw [hu.count], hu.lay0 _⟩
            · exact fault_smr hl h hr
  | n + 1, .group, s, s2, h, hr => by
    simp only [run]
    have hlen : s2.opn.length = s.opn.length := by
      obtain ⟨os, h1, h2, h3⟩ := h.opn
      rw [h2, h3, List.length_map, List.length_map]
    rw [h.read, (hl s.read).1, hlen]
    split
    · rename_i hk
      have hr2 := he.step (p := s.read) (by rw [hk]; decide)
      split
      · exact ⟨rfl, _, hr, rfl, rfl⟩
      · have hi : SmS l l2 { s.next with opn := s.opn ++ [(tkAt l s.read).at_] } { s2.next with opn := s2.opn ++ [(tkAt l2 s.read).at_] } := by
          obtain ⟨os, h1, h2, h3⟩ := h.opn
          refine ⟨by simp only [PS.next]; rw [h.read], h.count, h.nodes, ⟨os ++ [s.read], fun q hq => ?_, by simp only [h2, List.map_append, List.map_cons, List.map_nil], by simp only [h3, List.map_append, List.map_cons, List.map_nil]⟩, h.ats⟩
          rcases List.mem_append.1 hq with hq | hq
          · exact h1 q hq
          · rw [List.mem_singleton.1 hq]; exact hr
        refine (run_smr he hl n .inside _ _ hi hr2).bind fun g u u2 e hu => ?_
        have hr3 := run_range he n _ _ _ _ e hr2
        rw [hu.read, (hl u.read).1]
        split
        · rename_i hk4
          obtain ⟨os, h1, h2, h3⟩ := hu.opn
          refine ⟨rfl, by simp only [PS.next]; rw [hu.read], hu.count, hu.nodes, ⟨os.dropLast, fun q hq => h1 q (List.dropLast_subset _ hq), ?_, ?_⟩, hu.ats⟩
          · show u.opn.dropLast = _
            rw [h2, List.map_dropLast]
          · show u2.opn.dropLast = _
            rw [h3, List.map_dropLast]
        · exact fault_smr hl hu hr3
    · exact fault_smr hl h hr
  | n + 1, .inside, s, s2, h, hr => by
    simp only [run]
    rw [h.read, (hl s.read).1]
    split
    · exact ⟨by rw [h.count], h.lay0 _⟩
    · exact run_smr he hl n _ _ _ h hr
/-- Tokens at other places are parsed alike. -/
theorem parse_smr {l l2 : List Tk} (he : TEnds l) (hl : LikeL l l2) (hlen : l2.length = l.length) : SmR l l2 (parseP l) (parseP l2) := by
  unfold parseP
  rw [hlen]
  refine SmR.bind (run_smr he hl _ .or {} {} ⟨rfl, rfl, rfl, ⟨[], fun q hq => (by cases hq), rfl, rfl⟩, [], fun q hq => (by cases hq), rfl, rfl⟩ he.pos) fun k u u2 e hu => ?_
  have hr := run_range he _ _ _ _ _ e he.pos
  rw [hu.read, (hl u.read).1, hu.count]
  split
  · split
    · exact ⟨rfl, _, hr, rfl, rfl⟩
    · exact ⟨rfl, hu.next⟩
  · exact fault_smr hl hu hr
end Go.Proofs.YtcgjmnhmhiddkaaDoor
