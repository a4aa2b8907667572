/- What is parsed, and where its stars and repeats stand: the plain mathematics of the statement ParseOnly. -/
import Derived.Test.YtencdlcpnbdlbaaM13
namespace Go.Proofs.Ytencdlcpnbdlbaa
open Go
set_option linter.unusedVariables false
set_option linter.unusedSimpArgs false

/-- Each node's text is a token's, or empty. -/
def TxtOf (B : Nat) (s : PS) : Prop := ∀ n ∈ s.nodes, n.text.length ≤ B
theorem TxtOf.lay {B : Nat} {s : PS} (h : TxtOf B s) {n : Nd} (hn : n.text.length ≤ B) (p : Int) : TxtOf B (s.lay n p) := fun m hm => by
  unfold PS.lay at hm
  split at hm
  · rcases List.mem_append.1 hm with h1 | h1
    · exact h m h1
    · obtain rfl := List.mem_singleton.1 h1; exact hn
  · exact h m hm
theorem run_txt {l : List Tk} {B : Nat} (hl : ∀ p, (tkAt l p).text.length ≤ B) : ∀ (n : Nat) (m : Md) (s : PS) (k : Int) (t : PS), run l n m s = .ok k t → TxtOf B s → TxtOf B t
  | 0, _, _, _, _, h, _ => by cases h
  | n + 1, m, s, k, t, h, hk => by
    have two : ∀ {m1 m2 : Md} {s1 u : PS} {a b : Int}, run l n m1 s1 = .ok a u → run l n m2 u = .ok b t → TxtOf B s1 → TxtOf B t := fun h1 h2 k1 => run_txt hl n _ _ _ _ h2 (run_txt hl n _ _ _ _ h1 k1)
    have twoL : ∀ {m1 m2 : Md} {s1 u : PS} {a b : Int} (x : Nd) (p : Int), x.text = [] → run l n m1 s1 = .ok a u → run l n m2 (u.lay x p) = .ok b t → TxtOf B s1 → TxtOf B t := fun x p hx h1 h2 k1 => run_txt hl n _ _ _ _ h2 ((run_txt hl n _ _ _ _ h1 k1).lay (by rw [hx]; simp) p)
    cases m with
    | or => obtain ⟨a, u, h1, h2⟩ := bind_ok h; exact two h1 h2 hk
    | orL a =>
      simp only [run] at h
      split at h
      · obtain ⟨b, u, h1, h2⟩ := bind_ok h; exact twoL _ _ rfl h1 h2 (show TxtOf B s.next from hk)
      · cases h; exact hk
    | row => obtain ⟨a, u, h1, h2⟩ := bind_ok h; exact two h1 h2 hk
    | rowL a =>
      simp only [run] at h
      split at h
      · obtain ⟨b, u, h1, h2⟩ := bind_ok h; exact twoL _ _ rfl h1 h2 hk
      · cases h; exact hk
    | post => obtain ⟨a, u, h1, h2⟩ := bind_ok h; exact two h1 h2 hk
    | postL a =>
      simp only [run] at h
      split at h
      · exact run_txt hl n _ _ _ _ h (show TxtOf B (PS.lay _ _ _) from hk.lay (by simp) _)
      · split at h
        · exact run_txt hl n _ _ _ _ h (show TxtOf B (PS.lay _ _ _) from hk.lay (by simp) _)
        · cases h; exact hk
    | atom =>
      simp only [run] at h
      split at h
      · cases h; exact TxtOf.lay (s := s.next) hk (by simp) _
      · split at h
        · cases h; exact TxtOf.lay (s := s.next) hk (hl _) _
        · split at h
          · exact run_txt hl n _ _ _ _ h hk
          · split at h
            · obtain ⟨b, u, h1, h2⟩ := bind_ok h; cases h2; exact (run_txt hl n _ _ _ _ h1 (show TxtOf B s.next from hk)).lay (by simp) _
            · split at h
              · obtain ⟨b, u, h1, h2⟩ := bind_ok h; cases h2; exact (run_txt hl n _ _ _ _ h1 (show TxtOf B s.next from hk)).lay (by simp) _
              · exact absurd h fault_not_ok
    | group =>
      simp only [run] at h
      split at h
      · split at h
        · cases h
        · obtain ⟨b, u, h1, h2⟩ := bind_ok h
          split at h2
          · cases h2
            have q : TxtOf B u := run_txt hl n _ _ _ _ h1 hk
            exact q
          · exact absurd h2 fault_not_ok
      · exact absurd h fault_not_ok
    | inside =>
      simp only [run] at h
      split at h
      · cases h; exact hk.lay (by simp) _
      · exact run_txt hl n _ _ _ _ h hk
theorem parse_txt {l : List Tk} {B : Nat} (hl : ∀ p, (tkAt l p).text.length ≤ B) {k : Int} {t : PS} (h : parseP l = .ok k t) : TxtOf B t := by
  unfold parseP at h
  obtain ⟨a, u, h1, h2⟩ := bind_ok h
  have q := run_txt hl _ _ _ _ _ h1 (fun n hn => by cases hn)
  split at h2
  · split at h2
    · cases h2
    · cases h2; exact q
  · exact absurd h2 fault_not_ok
/-- What of nodes and of tokens is left. -/
def Rest (P : List (Nd × Int)) (l : List Tk) (i k : Nat) : Prop := (P.drop i).filterMap mkN = (l.drop k).filterMap stT
theorem drop_one (P : List (Nd × Int)) (i : Nat) (h : i < P.length) : P.drop i = P[i]'h :: P.drop (i + 1) := List.drop_eq_getElem_cons h
theorem tk_get {l : List Tk} {k : Nat} (h : k < l.length) : l[k]'h = tkAt l k := by unfold tkAt; simp [h]
theorem stT_no {t : Tk} (h : isSt t.kind = false) : stT t = none := by unfold stT; rw [h]; rfl
theorem stT_yes {t : Tk} (h : isSt t.kind = true) : stT t = some (t.kind, t.at_) := by unfold stT; rw [h]; rfl
theorem mkN_no {x : Nd × Int} (h : isSt x.1.kind = false) : mkN x = none := by unfold mkN; rw [h]; rfl
theorem mkN_yes {x : Nd × Int} (h : isSt x.1.kind = true) : mkN x = some (x.1.kind, x.2) := by unfold mkN; rw [h]; rfl
theorem Rest.node {P : List (Nd × Int)} {l : List Tk} {i k : Nat} (h : Rest P l i k) (hi : i < P.length) (hn : isSt (P[i]'hi).1.kind = false) : Rest P l (i + 1) k := by
  unfold Rest at *
  rw [drop_one P i hi, List.filterMap_cons, mkN_no hn] at h; exact h
theorem Rest.tok {P : List (Nd × Int)} {l : List Tk} {i k : Nat} (h : Rest P l i k) (hk : k < l.length) (hn : isSt (tkAt l k).kind = false) : Rest P l i (k + 1) := by
  unfold Rest at *
  rw [List.drop_eq_getElem_cons hk, List.filterMap_cons, tk_get hk, stT_no hn] at h; exact h
theorem Rest.hit {P : List (Nd × Int)} {l : List Tk} {i k : Nat} (h : Rest P l i k) (hi : i < P.length) (hn : isSt (P[i]'hi).1.kind = true) (hk : k < l.length) (ht : isSt (tkAt l k).kind = true) :
    (P[i]'hi).1.kind = (tkAt l k).kind ∧ (P[i]'hi).2 = (tkAt l k).at_ ∧ Rest P l (i + 1) (k + 1) := by
  unfold Rest at *
  rw [drop_one P i hi, List.filterMap_cons, mkN_yes hn, List.drop_eq_getElem_cons hk, List.filterMap_cons, tk_get hk, stT_yes ht] at h
  simp only at h
  have h2 := List.cons.inj h
  have h3 := Prod.mk.inj h2.1
  exact ⟨h3.1, h3.2, h2.2⟩
theorem Rest.more {P : List (Nd × Int)} {l : List Tk} {i k : Nat} (h : Rest P l i k) (hi : i < P.length) (hn : isSt (P[i]'hi).1.kind = true) : k < l.length := by
  rcases Nat.lt_or_ge k l.length with h2 | h2
  · exact h2
  · unfold Rest at h
    rw [drop_one P i hi, List.filterMap_cons, mkN_yes hn, List.drop_of_length_le h2] at h
    cases h
theorem Rest.done {P : List (Nd × Int)} {l : List Tk} {i k : Nat} (h : Rest P l i k) (hi : P.length ≤ i) (hk : k < l.length) : isSt (tkAt l k).kind = false := by
  cases ht : isSt (tkAt l k).kind with
  | false => rfl
  | true =>
    unfold Rest at h
    rw [List.drop_of_length_le hi, List.drop_eq_getElem_cons hk, List.filterMap_cons, tk_get hk, stT_yes ht] at h
    cases h
theorem Rest.start {P : List (Nd × Int)} {l : List Tk} (h : P.filterMap mkN = l.filterMap stT) : Rest P l 0 0 := h
theorem isSt_two {k : Int} : isSt k = true ↔ k = 6 ∨ k = 7 := by unfold isSt; simp
end Go.Proofs.Ytencdlcpnbdlbaa
