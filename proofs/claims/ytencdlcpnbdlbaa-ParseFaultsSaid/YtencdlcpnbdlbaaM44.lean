/- Rows of tokens appended whole; a token's place stored to; rows that are like one another. -/
import Derived.Test.YtencdlcpnbdlbaaM12
import Derived.Test.YtencdlcpnbdlbaaM20
import Derived.Test.YtencdlcpnbdlbaaM42
import Derived.Test.YtencdlcpnbdlbaaM21
namespace Go.Proofs.Ytencdlcpnbdlbaa
open Go Go.RowKit
set_option linter.unusedVariables false

theorem flatK_ones : ∀ (l : List Tk) (u : Value), u ∈ flatK l → u.oneCell' = true
  | [], u, h => by simp [flatK] at h
  | t :: l, u, h => by
    simp only [flatK, List.mem_append] at h
    rcases h with h | h
    · simp only [tkC, List.mem_cons, List.not_mem_nil, or_false] at h
      rcases h with rfl | rfl | rfl | rfl | rfl | rfl | rfl | rfl | rfl <;> rfl
    · exact flatK_ones l u h
theorem TkRow.news {w : World} {b oo : Nat} {r : List Tk} (hr : TkRow w (some ⟨b, oo, none⟩) r) : ∀ (j : Nat) (u : Value), (flatK r)[j]? = some u → w.cell? ((⟨b, oo, none⟩ : Addr).add j) = some u := by
  intro j u hu
  have hadd : (⟨b, oo, none⟩ : Addr).add j = ⟨b, oo + j, none⟩ := by unfold Addr.add; split <;> simp_all
  have hj : j < r.length * 9 := by
    rw [← flatK_length]; exact (List.getElem?_eq_some_iff.1 hu).1
  obtain ⟨b', o', h1, _, h3⟩ := hr (j / 9) (by omega)
  cases h1
  have := h3 (j % 9) (by omega)
  rw [← flatK_get r (j / 9) (j % 9) (by omega) (by omega), show j / 9 * 9 + j % 9 = j by omega, hu] at this
  rw [hadd, ← this]; congr 2; omega
theorem OwnK.empty {w : World} {base b : Nat} (h : Blk w b #[] 36) (hb : base ≤ b) : OwnK w base (.slice (some ⟨b, 0, none⟩) 0 0) [] :=
  ⟨rfl, .inr ⟨b, 0, #[], rfl, hb, h, Nat.le_refl _, Nat.zero_le _, rfl, rfl⟩⟩
set_option maxRecDepth 100000 in
theorem wp_append_tkrow {w : World} {o : Oper} {a : Act} {K : Act → World → Prop} {Q : Exit → Act → World → Prop} (s x : Operand)
    (ho : o.op = .call { callee := .builtin .append, args := #[s, x], argTypes := #[22, 22] })
    (base : Nat) (v : Value) (l : List Tk) (hs : a.eval s = v) (hown : OwnK w base v l)
    (b oo c : Nat) (r : List Tk) (hx : a.eval x = .slice (some ⟨b, oo, none⟩) r.length c) (hr : TkRow w (some ⟨b, oo, none⟩) r) (hlen : l.length + r.length < 1073741824) (hbase : base ≤ w.heap.size)
    (h : ∀ v' w', OwnK w' base v' (l ++ r) → (∀ B, B ≤ base → Below B w w') → K (a.put o.dst v') w') : o.wp Try.prog a w K Q := by
  obtain ⟨ib, hib, hz0, hz1, hz2⟩ := info_parts infoTok
  obtain ⟨v', w', hr2, h2, h3, _⟩ := run_append_own (P := Try.prog) w base 22 o.type 36 ib _ 9 80 Try.underlying22 hib hz0 hz1 hz2 rfl (by decide) v l.length (flatK l) hown ⟨b, oo, none⟩ r.length c (flatK r) (flatK_length r) hr.news (flatK_ones r) (by unfold maxLen; omega) (by omega) hbase
  have h2' : OwnK w' base v' (l ++ r) := by unfold OwnK; rw [List.length_append, flatK_append]; exact h2
  unfold Oper.wp execOp
  simp only [ho, resolve, invoke, builtin, Sem.run_bind, Sem.run_pure, Result.andThen_ok, List.map_toArray, List.map_cons, List.map_nil, hs, hx, hr2]
  exact h v' w' h2' fun B hB => (Below.refl B w).grown h3 (Nat.le_trans hB hbase) fun k hk => Nat.le_trans hB ((World.ownsRow.lt hown k hk).1)
theorem wpList_append_tkrow {w : World} {ops : Array Oper} {rest : List Oper} {o : Oper} {a : Act} {Q : Exit → Act → World → Prop} (hgd : o.guard = none) (s x : Operand)
    (ho : o.op = .call { callee := .builtin .append, args := #[s, x], argTypes := #[22, 22] })
    (base : Nat) (v : Value) (l : List Tk) (hs : a.eval s = v) (hown : OwnK w base v l)
    (b oo c : Nat) (r : List Tk) (hx : a.eval x = .slice (some ⟨b, oo, none⟩) r.length c) (hr : TkRow w (some ⟨b, oo, none⟩) r) (hlen : l.length + r.length < 1073741824) (hbase : base ≤ w.heap.size)
    (h : ∀ v' w', OwnK w' base v' (l ++ r) → (∀ B, B ≤ base → Below B w w') → wpList Try.prog ops Q rest (a.put o.dst v') w') : wpList Try.prog ops Q (o :: rest) a w :=
  wpList_plain hgd fun K hK => wp_append_tkrow s x ho base v l hs hown b oo c r hx hr hlen hbase fun v' w' h1 h2 => hK _ _ (h v' w' h1 h2)
/-- What is owned stands in one block from its beginning. -/
theorem OwnK.blk {w : World} {base : Nat} {v : Value} {l : List Tk} (h : OwnK w base v l) (hne : 0 < l.length) :
    ∃ g cap cur, v = .slice (some ⟨g, 0, none⟩) l.length cap ∧ l.length ≤ cap ∧ base ≤ g ∧ Blk w g cur 36 ∧ l.length * 9 ≤ cur.size ∧ ∀ j, j < l.length * 9 → cur[j]? = (flatK l)[j]? := by
  obtain ⟨q1, ⟨_, hn⟩ | ⟨g, cap, cur, hv, hb, hg, hc, hm, hs, ht⟩⟩ := h
  · omega
  · have hsz : l.length * 9 ≤ cur.size := by rw [hs]; exact Nat.mul_le_mul_right 9 hc
    refine ⟨g, cap, cur, hv, hc, hb, hg, hsz, fun j hj => ?_⟩
    rw [← ht, List.getElem?_take, if_pos hj]; simp
/-- A row that stands in one block from its beginning. -/
def JnW (w : World) (g : Nat) (L : List Tk) : Prop := ∃ cur, Blk w g cur 36 ∧ L.length * 9 ≤ cur.size ∧ ∀ j, j < L.length * 9 → cur[j]? = (flatK L)[j]?
theorem JnW.row {w : World} {g : Nat} {L : List Tk} (h : JnW w g L) : TkRow w (some ⟨g, 0, none⟩) L := fun i hi => by
  obtain ⟨cur, hk, hs, hc⟩ := h
  refine ⟨g, 0, rfl, hk.lt, fun j hj => ?_⟩
  rw [Nat.zero_add, hk.cell, hc _ (by omega), flatK_get L i j hi hj]
theorem JnW.later {w w' : World} {g : Nat} {L : List Tk} (h : JnW w g L) (hb : Below w.heap.size w w') : JnW w' g L := by
  obtain ⟨cur, hk, hs, hc⟩ := h
  exact ⟨cur, hk.later hb, hs, hc⟩
theorem JnW.set {w : World} {g : Nat} {L : List Tk} (h : JnW w g L) {i : Nat} (hi : i < L.length) (x : Int) : JnW (w.setCell ⟨g, i * 9 + 1, none⟩ (.int .i64 x)) g (L.set i { tkAt L i with at_ := x }) := by
  obtain ⟨cur, hk, hs, hc⟩ := h
  refine ⟨cur.setIfInBounds (i * 9 + 1) (.int .i64 x), hk.setCell (i * 9 + 1) (.int .i64 x), by rw [List.length_set]; simpa using hs, fun j hj => ?_⟩
  rw [List.length_set] at hj
  obtain ⟨p, q, hq, rfl⟩ : ∃ p q, q < 9 ∧ j = p * 9 + q := ⟨j / 9, j % 9, by omega, by omega⟩
  have hp : p < L.length := by omega
  rw [flatK_get _ p q (by rw [List.length_set]; exact hp) hq, Array.getElem?_setIfInBounds]
  by_cases hpi : p = i
  · subst hpi
    have e : (L.set p { tkAt L p with at_ := x }).getD p tkEnd = { tkAt L p with at_ := x } := by
      rw [List.getD_eq_getElem?_getD, List.getElem?_set_self hi]; rfl
    rw [e]
    by_cases h1 : q = 1
    · subst h1
      rw [if_pos rfl, if_pos (by omega)]; rfl
    · rw [if_neg (by omega), hc _ (by omega), flatK_get L p q hp hq]
      show (tkC (tkAt L p))[q]? = _
      generalize tkAt L p = n
      obtain ⟨k, a, lo, hi', cls, text⟩ := n
      have : q = 0 ∨ q = 2 ∨ q = 3 ∨ q = 4 ∨ q = 5 ∨ q = 6 ∨ q = 7 ∨ q = 8 := by omega
      rcases this with rfl | rfl | rfl | rfl | rfl | rfl | rfl | rfl <;> rfl
  · have e : (L.set i { tkAt L i with at_ := x }).getD p tkEnd = L.getD p tkEnd := by
      rw [List.getD_eq_getElem?_getD, List.getElem?_set_ne (by omega), ← List.getD_eq_getElem?_getD]
    rw [e, if_neg (by omega), hc _ (by omega), flatK_get L p q hp hq]
theorem OwnK.jn {w : World} {base : Nat} {v : Value} {l : List Tk} (h : OwnK w base v l) (hne : 0 < l.length) : ∃ g c, v = .slice (some ⟨g, 0, none⟩) l.length c ∧ l.length ≤ c ∧ base ≤ g ∧ JnW w g l := by
  obtain ⟨g, cap, cur, h1, h2, h3, h4, h5, h6⟩ := h.blk hne
  exact ⟨g, cap, h1, h2, h3, cur, h4, h5, h6⟩
/-- Rows that are like one another, but for the places. -/
structure Sim (l m : List Tk) : Prop where
  len : m.length = l.length
  like : LikeL l m
theorem likeT_refl (x : Tk) : LikeT x x := ⟨rfl, rfl, rfl, rfl, rfl⟩
theorem likeT_trans {x y z : Tk} (h : LikeT x y) (k : LikeT y z) : LikeT x z := ⟨k.1.trans h.1, k.2.1.trans h.2.1, k.2.2.1.trans h.2.2.1, k.2.2.2.1.trans h.2.2.2.1, k.2.2.2.2.trans h.2.2.2.2⟩
theorem Sim.refl (l : List Tk) : Sim l l := ⟨rfl, fun i => likeT_refl _⟩
theorem Sim.trans {l m n : List Tk} (h : Sim l m) (k : Sim m n) : Sim l n := ⟨k.len.trans h.len, fun i => likeT_trans (h.like i) (k.like i)⟩
theorem Sim.set {l m : List Tk} (h : Sim l m) {i : Nat} (hi : i < m.length) (x : Int) : Sim l (m.set i { tkAt m i with at_ := x }) := ⟨by rw [List.length_set]; exact h.len, fun p => by
  by_cases hpi : p = i
  · subst hpi
    have e : tkAt (m.set p { tkAt m p with at_ := x }) p = { tkAt m p with at_ := x } := by
      unfold tkAt; rw [List.getD_eq_getElem?_getD, List.getElem?_set_self hi]; rfl
    rw [e]; exact h.like p
  · have e : tkAt (m.set i { tkAt m i with at_ := x }) p = tkAt m p := by
      unfold tkAt; rw [List.getD_eq_getElem?_getD, List.getElem?_set_ne (by omega), ← List.getD_eq_getElem?_getD]
    rw [e]; exact h.like p⟩
theorem Sim.append {a b c d : List Tk} (h : Sim a b) (k : Sim c d) : Sim (a ++ c) (b ++ d) := ⟨by simp [h.len, k.len], fun i => by
  rcases Nat.lt_or_ge i a.length with h2 | h2
  · rw [tk_left h2, tk_left (by rw [h.len]; exact h2)]; exact h.like i
  · rw [tk_right h2, tk_right (by rw [h.len]; exact h2), h.len]; exact k.like _⟩
theorem Sim.drop {a b : List Tk} (h : Sim a b) : Sim a.dropLast b.dropLast := ⟨by simp [h.len], fun i => by
  rcases Nat.lt_or_ge i (a.length - 1) with h2 | h2
  · rw [tk_drop h2, tk_drop (by rw [h.len]; exact h2)]; exact h.like i
  · have e1 : tkAt a.dropLast i = tkEnd := by unfold tkAt; rw [List.getD_eq_getElem?_getD, List.getElem?_eq_none (by simp; omega)]; rfl
    have e2 : tkAt b.dropLast i = tkEnd := by unfold tkAt; rw [List.getD_eq_getElem?_getD, List.getElem?_eq_none (by simp [h.len]; omega)]; rfl
    rw [e1, e2]; exact likeT_refl _⟩
theorem Sim.ends {l m : List Tk} (h : Sim l m) (he : TEnds l) : TEnds m := ⟨by rw [h.len]; exact he.pos, by rw [h.len, (h.like _).1]; exact he.last, fun p hp => by rw [(h.like p).1]; exact he.only p (by rw [h.len] at hp; exact hp)⟩
theorem Sim.txt {l m : List Tk} (h : Sim l m) {B : Nat} (ht : ∀ p, (tkAt l p).text.length ≤ B) (p : Nat) : (tkAt m p).text.length ≤ B := by rw [(h.like p).2.2.2.2]; exact ht p
/-- What 'joined' makes, but for the places. -/
def midK (k : Int) : List Tk := if 0 < k then [{ kind := k }] else []
def joinL (a : List Tk) (k : Int) (b : List Tk) : List Tk := a.dropLast ++ midK k ++ b
theorem Sim.join {a b c d : List Tk} (h : Sim a b) (k : Int) (hk : Sim c d) : Sim (joinL a k c) (joinL b k d) := (h.drop.append (Sim.refl _)).append hk
theorem join_ends {a b : List Tk} (ha : ∀ p, p < a.length - 1 → (tkAt a p).kind ≠ 10) {k : Int} (hk : k ≠ 10) (hb : TEnds b) : TEnds (joinL a k b) := by
  have hm : (joinL a k b).length = (a.dropLast ++ midK k).length + b.length := by unfold joinL; rw [List.length_append]
  have hp := hb.pos
  have hno : ∀ p, p < (a.dropLast ++ midK k).length → (tkAt (a.dropLast ++ midK k) p).kind ≠ 10 := fun p hp => by
    rcases Nat.lt_or_ge p a.dropLast.length with h2 | h2
    · rw [tk_left h2, tk_drop (by simpa using h2)]; exact ha p (by simpa using h2)
    · rw [tk_right h2]
      unfold midK at hp ⊢
      split at hp
      · rename_i hk0
        rw [if_pos hk0]
        have : p - a.dropLast.length = 0 := by simp at hp ⊢; omega
        rw [this]; exact hk
      · simp at hp; simp at h2; omega
  refine ⟨by omega, ?_, fun p hp2 => ?_⟩
  · rw [hm]; unfold joinL
    rw [tk_right (by omega), show (a.dropLast ++ midK k).length + b.length - 1 - (a.dropLast ++ midK k).length = b.length - 1 by omega]
    exact hb.last
  · unfold joinL
    rcases Nat.lt_or_ge p (a.dropLast ++ midK k).length with h2 | h2
    · rw [tk_left h2]; exact hno p h2
    · rw [tk_right h2]; exact hb.only _ (by omega)
theorem join_txt {a b : List Tk} {B : Nat} (ha : ∀ p, (tkAt a p).text.length ≤ B) (k : Int) (hb : ∀ p, (tkAt b p).text.length ≤ B) (p : Nat) : (tkAt (joinL a k b) p).text.length ≤ B := by
  have hd : ∀ p, (tkAt a.dropLast p).text.length ≤ B := fun p => by
    rcases Nat.lt_or_ge p (a.length - 1) with h | h
    · rw [tk_drop h]; exact ha p
    · have : tkAt a.dropLast p = tkEnd := by unfold tkAt; rw [List.getD_eq_getElem?_getD, List.getElem?_eq_none (by simp; omega)]; rfl
      rw [this]; simp [tkEnd]
  have hm : ∀ p, (tkAt (midK k) p).text.length ≤ B := fun p => by
    have : (tkAt (midK k) p).text = [] := by
      unfold midK
      split
      · cases p with
        | zero => rfl
        | succ p => rfl
      · rfl
    rw [this]; simp
  unfold joinL
  rcases Nat.lt_or_ge p (a.dropLast ++ midK k).length with h2 | h2
  · rw [tk_left h2]
    rcases Nat.lt_or_ge p a.dropLast.length with h3 | h3
    · rw [tk_left h3]; exact hd p
    · rw [tk_right h3]; exact hm _
  · rw [tk_right h2]; exact hb _
end Go.Proofs.Ytencdlcpnbdlbaa
/- Tokens joined, and what is parsed of them: the plain mathematics of the statement ParseParts. -/
namespace Go.Proofs.Ytencdlcpnbdlbaa
open Go
set_option linter.unusedVariables false
set_option linter.unusedSimpArgs false

def opnP : List Tk := [{ kind := 3 }, { kind := 10 }]
def shtP : List Tk := [{ kind := 4 }, { kind := 10 }]
def widP : List Tk := [{ kind := 9 }, { kind := 10 }]
theorem two_ends {k : Int} (hk : k ≠ 10) : TEnds [{ kind := k }, { kind := 10 }] := ⟨by simp, rfl, fun p hp => by
  obtain rfl : p = 0 := by simp at hp; omega
  exact hk⟩
theorem join_opn (a : List Tk) : joinL opnP 0 a = { kind := 3 } :: a := rfl
theorem join_wid (a : List Tk) : joinL widP 0 a = { kind := 9 } :: a := rfl
theorem join_br {a : List Tk} (ha : 0 < a.length) : joinL ({ kind := 3 } :: a) 0 shtP = inBr a := by
  unfold joinL midK inBr shtP
  rw [if_neg (by decide)]
  obtain ⟨x, l, rfl⟩ : ∃ x l, a = x :: l := by cases a with
    | nil => simp at ha
    | cons x l => exact ⟨x, l, rfl⟩
  rw [List.dropLast_cons_cons]
  simp [tkEnd]
theorem br_sim {a L X : List Tk} (ha : 0 < a.length) (h1 : Sim (joinL opnP 0 a) L) (h2 : Sim (joinL L 0 shtP) X) : Sim (inBr a) X := by
  have := (h1.join 0 (Sim.refl shtP)).trans h2
  rwa [join_opn, join_br ha] at this
theorem or_sim {a b Y X : List Tk} (h1 : Sim (inBr b) Y) (h2 : Sim (joinL a 5 Y) X) : Sim (orOf a b) X := by
  have := ((Sim.refl a).join 5 h1).trans h2
  have e : joinL a 5 (inBr b) = orOf a b := by unfold joinL midK orOf; rw [if_pos (by decide)]; simp
  rwa [e] at this
theorem row_sim {a b X Y Z : List Tk} (h0 : Sim (inBr a) X) (h1 : Sim (inBr b) Y) (h2 : Sim (joinL X 0 Y) Z) : Sim (rowOf a b) Z := by
  have := (h0.join 0 h1).trans h2
  have e : joinL (inBr a) 0 (inBr b) = rowOf a b := by unfold joinL midK rowOf; rw [if_neg (by decide)]; simp
  rwa [e] at this
theorem wide_sim {a X Z : List Tk} (h0 : Sim (inBr a) X) (h2 : Sim (joinL widP 0 X) Z) : Sim (inWide a) Z := by
  have := ((Sim.refl widP).join 0 h0).trans h2
  rwa [join_wid] at this
theorem noEnd {l : List Tk} (h : TEnds l) : ∀ p, p < l.length - 1 → (tkAt l p).kind ≠ 10 := h.only
theorem br_ends {a : List Tk} (ha : TEnds a) : TEnds (inBr a) := by
  rw [← join_br ha.pos]
  refine join_ends (fun p hp => ?_) (by decide) (two_ends (by decide))
  cases p with
  | zero => exact (show (3 : Int) ≠ 10 by decide)
  | succ p => exact ha.only p (by simp at hp; omega)
theorem or_ends {a b : List Tk} (ha : TEnds a) (hb : TEnds b) : TEnds (orOf a b) := by
  have e : joinL a 5 (inBr b) = orOf a b := by unfold joinL midK orOf; rw [if_pos (by decide)]; simp
  rw [← e]; exact join_ends ha.only (by decide) (br_ends hb)
theorem row_ends {a b : List Tk} (ha : TEnds a) (hb : TEnds b) : TEnds (rowOf a b) := by
  have e : joinL (inBr a) 0 (inBr b) = rowOf a b := by unfold joinL midK rowOf; rw [if_neg (by decide)]; simp
  rw [← e]; exact join_ends (br_ends ha).only (by decide) (br_ends hb)
theorem wide_ends {a : List Tk} (ha : TEnds a) : TEnds (inWide a) := by
  have := join_ends (a := widP) (two_ends (by decide) : TEnds widP).only (k := 0) (by decide) (br_ends ha)
  rwa [join_wid] at this
theorem small_txt {k : Int} {B : Nat} : ∀ p, (tkAt [{ kind := k }, { kind := 10 }] p).text.length ≤ B := fun p => by
  have : (tkAt [({ kind := k } : Tk), { kind := 10 }] p).text = [] := by
    cases p with
    | zero => rfl
    | succ p => cases p with
      | zero => rfl
      | succ p => rfl
  rw [this]; simp
theorem cons_txt {k : Int} {a : List Tk} {B : Nat} (ha : ∀ p, (tkAt a p).text.length ≤ B) : ∀ p, (tkAt (({ kind := k } : Tk) :: a) p).text.length ≤ B := fun p => by
  cases p with
  | zero => show ([] : List UInt8).length ≤ B; simp
  | succ p => exact ha p
theorem br_txt {a : List Tk} {B : Nat} (hp : 0 < a.length) (ha : ∀ p, (tkAt a p).text.length ≤ B) : ∀ p, (tkAt (inBr a) p).text.length ≤ B := fun p => by
  rw [← join_br hp]; exact join_txt (cons_txt ha) 0 small_txt p
theorem or_txt {a b : List Tk} {B : Nat} (hq : 0 < b.length) (ha : ∀ p, (tkAt a p).text.length ≤ B) (hb : ∀ p, (tkAt b p).text.length ≤ B) : ∀ p, (tkAt (orOf a b) p).text.length ≤ B := fun p => by
  have e : joinL a 5 (inBr b) = orOf a b := by unfold joinL midK orOf; rw [if_pos (by decide)]; simp
  rw [← e]; exact join_txt ha 5 (br_txt hq hb) p
theorem row_txt {a b : List Tk} {B : Nat} (hp : 0 < a.length) (hq : 0 < b.length) (ha : ∀ p, (tkAt a p).text.length ≤ B) (hb : ∀ p, (tkAt b p).text.length ≤ B) : ∀ p, (tkAt (rowOf a b) p).text.length ≤ B := fun p => by
  have e : joinL (inBr a) 0 (inBr b) = rowOf a b := by unfold joinL midK rowOf; rw [if_neg (by decide)]; simp
  rw [← e]; exact join_txt (br_txt hp ha) 0 (br_txt hq hb) p
theorem wide_txt {a : List Tk} {B : Nat} (hp : 0 < a.length) (ha : ∀ p, (tkAt a p).text.length ≤ B) : ∀ p, (tkAt (inWide a) p).text.length ≤ B := cons_txt (br_txt hp ha)
/-- How many are open behind a bracket. -/
theorem cnt_cons (a : List Tk) : ∀ i, cntO (({ kind := 3 } : Tk) :: a) 0 (i + 1) = cntO a 1 i
  | 0 => rfl
  | i + 1 => by
    show stepO (tkAt (({ kind := 3 } : Tk) :: a) (i + 1)).kind (cntO (({ kind := 3 } : Tk) :: a) 0 (i + 1)) = stepO (tkAt a i).kind (cntO a 1 i)
    rw [cnt_cons a i, tk_cons]
theorem cnt_all {a : List Tk} (h : ∀ i, i < (({ kind := 3 } : Tk) :: a).length → cntO (({ kind := 3 } : Tk) :: a) 0 (i + 1) ≤ 64) : ∀ i, cntO a 1 i ≤ 64
  | 0 => by have := h 0 (by simp); rwa [cnt_cons] at this
  | i + 1 => by
    rcases Nat.lt_or_ge (i + 1) (a.length + 1) with h2 | h2
    · have := h (i + 1) (by simpa using h2); rwa [cnt_cons] at this
    · have q := cnt_all h i
      have e : tkAt a i = tkEnd := by unfold tkAt; rw [List.getD_eq_getElem?_getD, List.getElem?_eq_none (by omega)]; rfl
      simp only [cntO, stepO]
      rw [e, if_neg (by decide), if_neg (by decide)]; exact q
/-- All that is parsed of tokens joined. -/
theorem parts_all {a b X Y O R W : List Tk} {k j : Int} {u v : PS} (ha : TEnds a) (hb : TEnds b) (hd : PDone a k u) (hd2 : PDone b j v) (h64 : ∀ i, cntO a 1 i ≤ 64) (h642 : ∀ i, cntO b 1 i ≤ 64) (hf : u.count + v.count < 4096)
    (hX : Sim (inBr a) X) (hO : Sim (orOf a b) O) (hR : Sim (rowOf a b) R) (hW : Sim (inWide a) W) :
    (∃ i t, parseP X = .ok i t ∧ t.nodes = u.nodes) ∧ (∃ i t, parseP O = .ok i t ∧ t.nodes = pairL 5 u.nodes v.nodes) ∧ (∃ i t, parseP R = .ok i t ∧ t.nodes = pairL 4 u.nodes v.nodes) ∧ (∃ i t, parseP W = .ok i t ∧ t.nodes = wrapL 9 0 0 u.nodes) := by
  obtain ⟨t1, p1, q1⟩ := parse_br ha hd h64 hX.like
  obtain ⟨t2, i2, p2, q2⟩ := parse_orOf ha hd h64 hb hd2 h642 hf hO.like
  obtain ⟨t3, i3, p3, q3⟩ := parse_rowOf ha hd h64 hb hd2 h642 hf hR.like
  obtain ⟨t4, i4, p4, q4⟩ := parse_wide ha hd h64 (by omega) hW.like
  exact ⟨⟨_, t1, p1, q1⟩, ⟨_, t2, p2, q2⟩, ⟨_, t3, p3, q3⟩, ⟨_, t4, p4, q4⟩⟩
end Go.Proofs.Ytencdlcpnbdlbaa
/- The statement's joined: walked. -/
namespace Go.Proofs.Ytencdlcpnbdlbaa
open Go Go.RowKit
set_option linter.unusedVariables false
set_option linter.unusedSimpArgs false

def mkK (k : Int) : Tk := { kind := k }
theorem tkC_pl (k : Int) : tkC (mkK k) = #[.int .i64 k, .int .i64 0, .int .u64 0, .int .u64 0, .int .u64 0, .int .u64 0, .string ⟨#[]⟩, .int .i64 0, .int .i64 0] := by kernel_rfl
theorem TkRow.drop {w : World} {A : Option Addr} {a : List Tk} (h : TkRow w A a) : TkRow w A a.dropLast := fun i hi => by
  rw [List.length_dropLast] at hi
  obtain ⟨b, o, h1, h2, h3⟩ := h i (by omega)
  refine ⟨b, o, h1, h2, fun j hj => ?_⟩
  have e : a.dropLast.getD i tkEnd = a.getD i tkEnd := tk_drop hi
  rw [e]; exact h3 j hj
theorem JnW.frozen {w : World} {g : Nat} {L : List Tk} (h : JnW w g L) (o : Nat) : w.frozen? ⟨g, o, none⟩ = false := by
  obtain ⟨cur, hk, _⟩ := h
  exact hk.frozen o
/-- How joined ends. -/
def JnPost (w : World) (l : List Tk) (e : Ending) (w' : World) : Prop := ∃ (g c : Nat) (L : List Tk), e = .returned (.slice (some ⟨g, 0, none⟩) L.length c) ∧ L.length ≤ c ∧ JnW w' g L ∧ Sim l L ∧ Below w.heap.size w w'
structure JoS (w0 : World) (base : Nat) (B : Option Addr) (b : List Tk) (v : Value) (l : List Tk) (w : World) : Prop where
  bel : Below base w0 w
  rb : TkRow w B b
  own : OwnK w base v l
  lo : base ≤ w.heap.size
  low : ∀ x o, B = some ⟨x, o, none⟩ → x < base
theorem JoS.grow {w0 w w' : World} {base : Nat} {B : Option Addr} {b : List Tk} {v v' : Value} {l l' : List Tk} (h : JoS w0 base B b v l w) (hb : Below base w w') (ho : OwnK w' base v' l') : JoS w0 base B b v' l' w' :=
  ⟨h.bel.trans hb, h.rb.below h.low hb, ho, Nat.le_trans h.lo hb.size, h.low⟩
theorem JoS.later {w0 w w' : World} {base : Nat} {B : Option Addr} {b : List Tk} {v : Value} {l : List Tk} (h : JoS w0 base B b v l w) (hb : Below w.heap.size w w') : JoS w0 base B b v l w' := h.grow (hb.mono h.lo) (h.own.later hb)
def JoL (w0 : World) (base g n : Nat) (l : List Tk) (iv : Value) (w : World) : Prop := ∃ (k : Nat) (L : List Tk), k ≤ n ∧ iv = .int .i64 (k : Int) ∧ L.length = n ∧ Sim l L ∧ JnW w g L ∧ Below base w0 w
set_option maxHeartbeats 8000000 in
set_option maxRecDepth 100000 in
theorem joined_any (a b : List Tk) (A B : Option Addr) (ca cb : Nat) (kind : Int) (ha : 0 < a.length) (hb : 0 < b.length) (hla : a.length ≤ 100000) (hlb : b.length ≤ 100000) (hca : a.length ≤ ca) (w : World) (ra : TkRow w A a) (rb : TkRow w B b) :
    Calls Try.prog 12 #[.slice A a.length ca, .int .i64 kind, .slice B b.length cb] w (JnPost w (joinL a kind b)) := by
  obtain ⟨ba, oa, hA, -, -⟩ := ra 0 ha
  subst hA
  obtain ⟨bb, ob, hB, -, -⟩ := rb 0 hb
  subst hB
  obtain ⟨m, hm⟩ : ∃ m, a.length = m + 1 := ⟨a.length - 1, by omega⟩
  have HDL : Hid (a.dropLast.length = m) := by unfold Hid; simp [hm]
  have HRA : Hid (TkRow w (some ⟨ba, oa, none⟩) a.dropLast) := ra.drop
  have HLOW : Hid (∀ x o, (some ⟨bb, ob, none⟩ : Option Addr) = some ⟨x, o, none⟩ → x < w.heap.size) := fun x o h => by
    obtain ⟨b', o', h1, h2, _⟩ := rb 0 hb
    cases h; cases h1; exact h2
  have HRB := Lib.hid rb
  have hw1 := wrap_of (by omega : (m : Int) ≤ 1073741824) (by omega : (0 : Int) ≤ (m : Int))
  have hw2 := wrap_of (by omega : (m : Int) + 1 - 1 ≤ 1073741824) (by omega : (0 : Int) ≤ (m : Int) + 1 - 1)
  have hmc : m ≤ ca := by omega
  have hmc1 : m + 1 ≤ ca := by omega
  rw [hm]
  have HM := Lib.hid hm
  have HBP := Lib.hid hb
  have HLAB : Hid (m ≤ 100000 ∧ b.length ≤ 100000) := ⟨by omega, hlb⟩
  clear ra rb hm ha hla hca hb hlb
  go_enter Try.func12, Try.ntmps12
  go_upto_region 3 with (at_builtin; refine wpList_append_tkrow rfl _ _ rfl w.heap.size (.slice none 0 0) [] rfl (OwnK.nil _ _) ba oa ca a.dropLast (by rw [HDL.out]; rfl) HRA.out (by rw [HDL.out]; have := HLAB.out.1; simp; omega) (Nat.le_refl _) ?_; intro v' w2 ho hb2; have HS2 : Hid (JoS w w.heap.size (some ⟨bb, ob, none⟩) b v' a.dropLast w2) := ⟨hb2 _ (Nat.le_refl _), HRB.out.below HLOW.out (hb2 _ (Nat.le_refl _)), ho, (hb2 _ (Nat.le_refl _)).size, HLOW.out⟩; clear ho hb2 HRA)
  clear HRB HLOW hw1 hw2 hmc hmc1
  obtain ⟨base, hbase⟩ : ∃ base, w.heap.size = base := ⟨_, rfl⟩
  rw [hbase] at HS2
  have HBASE := Lib.hid hbase
  clear hbase
  by_cases hk : 0 < kind
  · have hmid : midK kind = [mkK kind] := by unfold midK; rw [if_pos hk]; rfl
    have HXN : Hid (Blk (w2.alloc (.cells #[.int .i64 kind, .int .i64 0, .int .u64 0, .int .u64 0, .int .u64 0, .int .u64 0, .string ⟨#[]⟩, .int .i64 0, .int .i64 0] 36)) w2.heap.size (tkC (mkK kind)) 36) := by unfold Hid; rw [tkC_pl]; exact Blk.new _ _ _
    have HS7 := Lib.hid (HS2.out.later ((Below.refl w2.heap.size w2).alloc (Nat.le_refl _) (.cells #[.int .i64 kind, .int .i64 0, .int .u64 0, .int .u64 0, .int .u64 0, .int .u64 0, .string ⟨#[]⟩, .int .i64 0, .int .i64 0] 36)))
    have HLN : Hid (a.dropLast.length < 1073741824) := by unfold Hid; rw [HDL.out]; have := HLAB.out.1; omega
    clear HS2
    go_upto_region 5 with (at_builtin; refine wpList_append_tk rfl _ _ rfl base _ a.dropLast rfl HS7.out.own w2.heap.size (mkK kind) rfl HXN.out HLN.out HS7.out.lo ?_; intro v' w4 ho hb; have HS := Lib.hid (HS7.out.grow (hb _ (Nat.le_refl _)) ho); clear ho hb HS7 HXN HLN)
    have HJO : Hid ((a.dropLast ++ [mkK kind]) ++ b = joinL a kind b) := by unfold Hid joinL; rw [hmid]
    have HLT : Hid ((a.dropLast ++ [mkK kind]).length + b.length < 1073741824) := by unfold Hid; have := HLAB.out; rw [List.length_append, HDL.out]; simp; omega
    have HLT2 : Hid (((a.dropLast ++ [mkK kind]) ++ b).length ≤ 1000000) := by unfold Hid; have := HLAB.out; rw [List.length_append, List.length_append, HDL.out]; simp; omega
    have HPOS : Hid (0 < ((a.dropLast ++ [mkK kind]) ++ b).length) := by unfold Hid; have := HBP.out; rw [List.length_append]; omega
    clear hmid hk
    have HT := Lib.hid (HS.out)
    clear HS
    go_upto_region 6 with (at_builtin; refine wpList_append_tkrow rfl _ _ rfl base _ (a.dropLast ++ [mkK kind]) rfl HT.out.own bb ob cb b rfl HT.out.rb HLT.out HT.out.lo ?_; intro v' w3 ho hb; have HS3 := Lib.hid (HT.out.grow (hb _ (Nat.le_refl _)) ho); clear ho hb HT)
    obtain ⟨g, c, rfl, hc, hbg, hjn⟩ := HS3.out.own.jn HPOS.out
    have HL : Hid (JoL w base g ((a.dropLast ++ [mkK kind]) ++ b).length ((a.dropLast ++ [mkK kind]) ++ b) (.int .i64 0) w3) := ⟨0, (a.dropLast ++ [mkK kind]) ++ b, Nat.zero_le _, rfl, rfl, Sim.refl _, hjn, HS3.out.bel⟩
    have HLE : Hid (((a.dropLast ++ [mkK kind]) ++ b).length ≤ 1000000) := by unfold Hid; have := HLT2.out; simp only [List.length_append] at this ⊢; omega
    clear HS3 hjn HPOS HLT HLT2
    have HJ : Hid ((a.dropLast ++ [mkK kind]) ++ b = joinL a kind b) := HJO.out
    rw [HJ.out] at HL hc HLE ⊢
    clear HJ HJO
    generalize joinL a kind b = J at *
    generalize J.length = n at *
    have hn := HLE.out
    go_wp2
    go_loopw [8] (JoL w base g n J) (fun iv _ => n - (intOf iv).toNat)
    case atStart => exact HL.out
    case round =>
      obtain ⟨k, L, hk, rfl, hln, hsim, hjw, hbel⟩ := hrel
      have HSIM := Lib.hid hsim
      have HJW := Lib.hid hjw
      have HBL := Lib.hid hbel
      clear hsim hjw hbel HL
      by_cases hlt : k < n
      · have hltz : (k : Int) < (n : Int) := by omega
        have hw1 := wrap_of (by omega : (k : Int) + 1 ≤ 1073741824) (by omega : (0 : Int) ≤ (k : Int) + 1)
        have hkl : k < L.length := by omega
        have gt := HJW.out.row.at hkl rfl
        unfold At9K at gt
        obtain ⟨t0, t1, -, -, -, -, -, -, -⟩ := gt
        rw [Nat.zero_add] at t0 t1
        have tf := HJW.out.frozen
        have HJW2 := Lib.hid (HJW.out.set hkl (k : Int))
        have HSIM2 := Lib.hid (HSIM.out.set hkl (k : Int))
        have HBL2 := Lib.hid (HBL.out.setCell (p := ⟨g, k * 9 + 1, none⟩) hbg (.int .i64 (k : Int)))
        clear HJW HSIM HBL
        go_wp2
        go_roundw
        case rel => exact ⟨k + 1, _, hlt, by go_num, by rw [List.length_set]; exact hln, HSIM2.out, HJW2.out, HBL2.out⟩
        case measure => simp [intOf]; omega
      · have hltz : ¬ (k : Int) < (n : Int) := by omega
        go_wp2
        go_ret
        exact ⟨g, c, L, by rw [hln]; rfl, by rw [hln]; exact hc, HJW.out, HSIM.out, by rw [HBASE.out]; exact HBL.out⟩
  · have hmid : midK kind = [] := by unfold midK; rw [if_neg hk]
    have HJO : Hid (a.dropLast ++ b = joinL a kind b) := by unfold Hid joinL; rw [hmid, List.append_nil]
    have HLT : Hid (a.dropLast.length + b.length < 1073741824) := by unfold Hid; have := HLAB.out; rw [HDL.out]; omega
    have HLT2 : Hid ((a.dropLast ++ b).length ≤ 1000000) := by unfold Hid; have := HLAB.out; rw [List.length_append, HDL.out]; omega
    have HPOS : Hid (0 < (a.dropLast ++ b).length) := by unfold Hid; have := HBP.out; rw [List.length_append]; omega
    have HS := HS2
    clear hmid HS2
    go_upto_region 5 with (fail)
    have HT := Lib.hid (HS.out)
    clear HS
    go_upto_region 6 with (at_builtin; refine wpList_append_tkrow rfl _ _ rfl base _ a.dropLast rfl HT.out.own bb ob cb b rfl HT.out.rb HLT.out HT.out.lo ?_; intro v' w3 ho hb; have HS3 := Lib.hid (HT.out.grow (hb _ (Nat.le_refl _)) ho); clear ho hb HT)
    obtain ⟨g, c, rfl, hc, hbg, hjn⟩ := HS3.out.own.jn HPOS.out
    have HL : Hid (JoL w base g (a.dropLast ++ b).length (a.dropLast ++ b) (.int .i64 0) w3) := ⟨0, a.dropLast ++ b, Nat.zero_le _, rfl, rfl, Sim.refl _, hjn, HS3.out.bel⟩
    have HLE : Hid ((a.dropLast ++ b).length ≤ 1000000) := by unfold Hid; have := HLT2.out; simp only [List.length_append] at this ⊢; omega
    clear HS3 hjn HPOS HLT HLT2
    have HJ : Hid (a.dropLast ++ b = joinL a kind b) := HJO.out
    rw [HJ.out] at HL hc HLE ⊢
    clear HJ HJO
    generalize joinL a kind b = J at *
    generalize J.length = n at *
    have hn := HLE.out
    go_wp2
    go_loopw [8] (JoL w base g n J) (fun iv _ => n - (intOf iv).toNat)
    case atStart => exact HL.out
    case round =>
      obtain ⟨k, L, hk, rfl, hln, hsim, hjw, hbel⟩ := hrel
      have HSIM := Lib.hid hsim
      have HJW := Lib.hid hjw
      have HBL := Lib.hid hbel
      clear hsim hjw hbel HL
      by_cases hlt : k < n
      · have hltz : (k : Int) < (n : Int) := by omega
        have hw1 := wrap_of (by omega : (k : Int) + 1 ≤ 1073741824) (by omega : (0 : Int) ≤ (k : Int) + 1)
        have hkl : k < L.length := by omega
        have gt := HJW.out.row.at hkl rfl
        unfold At9K at gt
        obtain ⟨t0, t1, -, -, -, -, -, -, -⟩ := gt
        rw [Nat.zero_add] at t0 t1
        have tf := HJW.out.frozen
        have HJW2 := Lib.hid (HJW.out.set hkl (k : Int))
        have HSIM2 := Lib.hid (HSIM.out.set hkl (k : Int))
        have HBL2 := Lib.hid (HBL.out.setCell (p := ⟨g, k * 9 + 1, none⟩) hbg (.int .i64 (k : Int)))
        clear HJW HSIM HBL
        go_wp2
        go_roundw
        case rel => exact ⟨k + 1, _, hlt, by go_num, by rw [List.length_set]; exact hln, HSIM2.out, HJW2.out, HBL2.out⟩
        case measure => simp [intOf]; omega
      · have hltz : ¬ (k : Int) < (n : Int) := by omega
        go_wp2
        go_ret
        exact ⟨g, c, L, by rw [hln]; rfl, by rw [hln]; exact hc, HJW.out, HSIM.out, by rw [HBASE.out]; exact HBL.out⟩
end Go.Proofs.Ytencdlcpnbdlbaa
/- The anchor of layer 4: answers that the document fixes. -/
namespace Go.Proofs.Ytencdlcpnbdlbaa
open Go Go.RowKit
set_option linter.unusedVariables false
set_option linter.unusedSimpArgs false

def awA : List Nd := [{ kind := 1 }]
def awX : Nd := { kind := 3, text := [120] }
def awB : List Nd := [awX, { kind := 7, a := 0, lo := 1, hi := 2 }]
def awN2 : Nd := { kind := 7, a := 1, lo := 1, hi := 2 }
def awN3 : Nd := { kind := 5, a := 0, b := 2 }
def awD : List Nd := [{ kind := 1 }, awX, awN2, awN3]
theorem awB_eq : wrapL 7 1 2 [awX] = awB := by decide
theorem awD_eq : pairL 5 awA awB = awD := by decide
theorem form_one {n : Nd} (h : okN [n] 0 n) (hk : leafK n.kind) : Form [n] := by
  refine ⟨by simp, fun i hi => ?_, ?_⟩
  · obtain rfl : i = 0 := by simpa using hi
    exact h
  · show firstP [n] 0 = 0
    have := firstP_le [n] 0; omega
theorem awA_form : Form awA := form_one ⟨by decide, .inl rfl⟩ (.inl rfl)
theorem awX_form : Form [awX] := form_one ⟨by decide, .inr (.inr (.inl ⟨rfl, by decide⟩))⟩ (.inr (.inr rfl))
theorem awB_form : Form awB := by rw [← awB_eq]; exact wrap_form7 awX_form (by decide) (by decide) (by decide)
theorem awD_form : Form awD := by rw [← awD_eq]; exact pair_form awA_form awB_form (.inr rfl)
theorem awD_first2 : firstP awD 2 = 1 := by
  have := (pair_sub awA_form awB_form (kind := 5)).2.2
  rw [awD_eq] at this; exact this
theorem awD_sub2 : subL awD 2 = awB := by
  have := (pair_sub awA_form awB_form (kind := 5)).2.1
  rw [awD_eq] at this; exact this
theorem awD_first3 : firstP awD 3 = 0 := awD_form.2.2
theorem awD_cut : formB (awD.take 3) = false := formB_not (fun h => by
  have := (cut_form awD_form (k := 2) (by decide)).1 h
  rw [awD_first2] at this; cases this)
theorem awNil : formB [] = false := formB_not (fun h => by have := h.1; simp at this)
def awE : Nd := { kind := 1, a := 1 }
theorem awE_form : formB [awE] = false := formB_not (fun h => by
  have := (h.2.1 0 (by simp)).1
  exact absurd this (by decide))
theorem awTxt : Txt awD := fun n hn => by
  have : ∀ n ∈ awD, n.text.length ≤ 1 := by decide
  have := this n hn; omega
theorem mvOk0 {n : Nd} (ht : n.text.length ≤ 1000) (ha : -1000 ≤ n.a ∧ n.a ≤ 1000) (hb : -1000 ≤ n.b ∧ n.b ≤ 1000) {d : Int} (hd : -1000 ≤ d ∧ d ≤ 1000) : MvOk d n :=
  ⟨by omega, fun _ => wrap_in (by omega) (by omega), fun _ => wrap_in (by omega) (by omega)⟩
theorem awETxt : Txt [awE] := fun n hn => by simp at hn; subst hn; decide
theorem awq1 (w : World) : (binOp .eql 39 (.agg #[.int .i64 7, .int .i64 1, .int .i64 0, .int .i64 1, .int .i64 2, .int .u64 0, .int .u64 0, .int .u64 0, .int .u64 0, .string ⟨#[]⟩]) (.agg #[.int .i64 7, .int .i64 1, .int .i64 0, .int .i64 1, .int .i64 2, .int .u64 0, .int .u64 0, .int .u64 0, .int .u64 0, .string ⟨#[]⟩])).run Try.prog w = .ok (.bool true) w := by
  have := eql_nd awN2 awN2 w
  unfold awN2 at this
  rw [ndC_zero] at this
  exact this
theorem awq2 (w : World) : (binOp .eql 39 (.agg #[.int .i64 5, .int .i64 0, .int .i64 2, .int .i64 0, .int .i64 0, .int .u64 0, .int .u64 0, .int .u64 0, .int .u64 0, .string ⟨#[]⟩]) (.agg #[.int .i64 5, .int .i64 0, .int .i64 2, .int .i64 0, .int .i64 0, .int .u64 0, .int .u64 0, .int .u64 0, .int .u64 0, .string ⟨#[]⟩])).run Try.prog w = .ok (.bool true) w := by
  have := eql_nd awN3 awN3 w
  unfold awN3 at this
  rw [ndC_zero] at this
  exact this
end Go.Proofs.Ytencdlcpnbdlbaa
