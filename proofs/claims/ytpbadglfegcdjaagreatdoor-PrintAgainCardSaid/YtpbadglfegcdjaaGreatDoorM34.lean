/- Parse: walked. -/
import Derived.Test.YtpbadglfegcdjaaGreatDoorM33
import Derived.Test.YtpbadglfegcdjaaGreatDoorM12
import Derived.Test.YtpbadglfegcdjaaGreatDoorM17
import Derived.Test.YtpbadglfegcdjaaGreatDoorM20
import Derived.Test.YtpbadglfegcdjaaGreatDoorM26
import Derived.Test.YtpbadglfegcdjaaGreatDoorM28
import Derived.Test.YtpbadglfegcdjaaGreatDoorM14
import Derived.Test.YtpbadglfegcdjaaGreatDoorM21
import Derived.Test.YtpbadglfegcdjaaGreatDoorM18
namespace Go.Proofs.YtpbadglfegcdjaaGreatDoor
open Go Go.RowKit
set_option linter.unusedVariables false
set_option linter.unusedSimpArgs false

/-- How Parse ends. -/
def PParse (w : World) (r : PR) (e : Ending) (w' : World) : Prop := match r with
  | .ok k t => ∃ nv av, e = .returned (.tuple #[.agg #[nv], av, .int .i64 0, .int .i64 0]) ∧ OwnN w' w.heap.size nv t.nodes ∧ OwnI w' w.heap.size av t.ats ∧ Below w.heap.size w w'
  | .bad er p => e = .returned (.tuple #[.agg #[.slice none 0 0], .slice none 0 0, .int .i64 er, .int .i64 p]) ∧ Below w.heap.size w w'
  | .out => False
theorem own_base {w : World} {base base' size n : Nat} {e : TypeId} {v : Value} {xs : List Value} (h : w.ownsRow base e size v n xs) (hb : base' ≤ base) : w.ownsRow base' e size v n xs := by
  obtain ⟨h0, ⟨hv, hn⟩ | ⟨g, cap, cur, hv, hg, hr⟩⟩ := h
  · exact ⟨h0, .inl ⟨hv, hn⟩⟩
  · exact ⟨h0, .inr ⟨g, cap, cur, hv, Nat.le_trans hb hg, hr⟩⟩
set_option maxHeartbeats 4000000 in
set_option maxRecDepth 100000 in
theorem parse_any {l : List Tk} (hl : TkTxt' l) (he : TEnds l) (hlen : l.length < 1048576) (A : Option Addr) (c : Nat) (w : World) (hrow : TkRow w A l) :
    Calls Tryz.prog 10 #[.slice A l.length c] w (PParse w (parseP l)) := by
  have hlow : ∀ b o, A = some ⟨b, o, none⟩ → b < w.heap.size + 1 := fun b o hA => by
    obtain ⟨b', o', h1, h2, _⟩ := hrow 0 he.pos
    rw [hA] at h1; cases h1; omega
  have HB1 := (Below.refl w.heap.size w).alloc (Nat.le_refl _) (.cells #[.slice none 0 0] 24)
  have HB2 := HB1.alloc (by simp) (.cells #[.slice A l.length c, .int .i64 0, .slice none 0 0, .slice none 0 0, .slice none 0 0, .int .i64 0] 70)
  have HD : Hid (Blk ((w.alloc (.cells #[.slice none 0 0] 24)).alloc (.cells #[.slice A l.length c, .int .i64 0, .slice none 0 0, .slice none 0 0, .slice none 0 0, .int .i64 0] 70)) w.heap.size #[.slice none 0 0] 24) := (Blk.new w _ _).alloc _
  have HP : Hid (Pst ((w.alloc (.cells #[.slice none 0 0] 24)).alloc (.cells #[.slice A l.length c, .int .i64 0, .slice none 0 0, .slice none 0 0, .slice none 0 0, .int .i64 0] 70)) (w.heap.size + 1) (w.heap.size + 1) A c l {}) :=
    ⟨.slice none 0 0, .slice none 0 0, .slice none 0 0, Blk.new' (by simp) _ _, ⟨rfl, .inl ⟨rfl, rfl⟩⟩, ⟨rfl, .inl ⟨rfl, rfl⟩⟩, ⟨rfl, .inl ⟨rfl, rfl⟩⟩, fun g hg => (by cases hg), hrow.later HB2, hlow, Nat.le_refl _, by omega, by simp, by simp, by simp⟩
  have HB := Lib.hid HB2
  obtain ⟨r, hr⟩ : ∃ r, parseP l = r := ⟨_, rfl⟩
  have HR : Hid (∀ w B pb, Pst w B pb A c l {} → Calls Tryz.prog 25 #[.pointer (some ⟨pb, 0, none⟩)] w (PrunPost B pb A c l w r)) := fun w B pb h => by
    have q := prun_any hl he h
    rw [hr] at q; exact q
  rw [hr]
  have HN : Hid (∀ er p, r = .bad er p → er ≠ 0) := fun er p h => by rw [h] at hr; have := parse_err hr; omega
  clear hr hrow hlow HB1 HB2
  go_enter Tryz.func10, Tryz.ntmps10
  go_upto_region 2 with (fail)
  generalize (w.alloc (.cells #[.slice none 0 0] 24)).alloc (.cells #[.slice A l.length c, .int .i64 0, .slice none 0 0, .slice none 0 0, .slice none 0 0, .int .i64 0] 70) = w1 at *
  generalize hdb : w.heap.size = db at *
  have HDB := Lib.hid hdb
  clear hdb
  go_wp2_with fail
  refine (HR.out w1 _ _ HP.out).mono ?_; intro e2 w2 hq
  cases r with
  | out => exact absurd hq id
  | bad e p =>
    obtain ⟨rfl, hb2⟩ := hq
    have hne : (e != 0) = true := by rw [bne_iff_ne]; exact HN.out e p rfl
    have HB2 := Lib.hid (HB.out.trans (hb2.mono (Nat.le_succ _)))
    have HD2 : Hid (Blk w2 db #[.slice none 0 0] 24) := (hb2.block db (Nat.lt_succ_self _)).trans HD.out
    clear hb2 HN HR HP HD HB
    unfold ftV
    go_upto_region 3 with (fail)
    have HF3 := Lib.hid (Blk.new w2 #[.int .i64 e, .int .i64 p] 72)
    have HD3 : Hid (Blk (w2.alloc (.cells #[.int .i64 e, .int .i64 p] 72)) db #[.slice none 0 0] 24) := HD2.out.alloc _
    have HB3 : Hid (Below db w (w2.alloc (.cells #[.int .i64 e, .int .i64 p] 72))) := HB2.out.alloc (Nat.le_of_lt HD2.out.lt) _
    generalize w2.alloc (.cells #[.int .i64 e, .int .i64 p] 72) = w3 at *
    generalize w2.heap.size = fb at *
    clear HD2 HB2
    have c0 := HF3.out.cell 0
    have c1 := HF3.out.cell 1
    have d0 := HD3.out.cell 0
    have df := HD3.out.frozen
    simp at c0 c1 d0
    have n1 : fb ≠ db := Blk.typed2 HF3.out HD3.out (by decide)
    have n2 : db ≠ fb := Ne.symm n1
    go_upto_region 4 with (fail)
    go_region
    go_wp2
    have x0 := (HD3.out.setCell 0 (.slice none 0 0)).cell 0
    simp at x0
    exact bodyPost_ret (v := .tuple #[.agg #[.slice none 0 0], .slice none 0 0, .int .i64 e, .int .i64 p]) (by simp [results, Tryz.results10, go_sem, d0]) rfl (by
      unfold PParse
      rw [HDB.out]
      exact ⟨rfl, (HB3.out.setCell (p := ⟨db, 0, none⟩) (Nat.le_refl _) (.slice none 0 0)).drew⟩)
  | ok k t =>
    obtain ⟨rfl, hP2, hb2⟩ := hq
    have hne : ((0 : Int) != 0) = false := rfl
    have HB2 := Lib.hid (HB.out.trans (hb2.mono (Nat.le_succ _)))
    have HD2 : Hid (Blk w2 db #[.slice none 0 0] 24) := (hb2.block db (Nat.lt_succ_self _)).trans HD.out
    obtain ⟨ov, nv, av, h0⟩ := hP2
    obtain ⟨an, kn, rfl, -⟩ := h0.nodes.row
    obtain ⟨aa, ka, rfl, -⟩ := h0.ats.row
    have H0 := Lib.hid h0
    clear hb2 HN HR HP HD HB h0
    unfold ftV
    go_upto_region 3 with (fail)
    have HF3 := Lib.hid (Blk.new w2 #[.int .i64 0, .int .i64 0] 72)
    have HD3 : Hid (Blk (w2.alloc (.cells #[.int .i64 0, .int .i64 0] 72)) db #[.slice none 0 0] 24) := HD2.out.alloc _
    have HB3 : Hid (Below db w (w2.alloc (.cells #[.int .i64 0, .int .i64 0] 72))) := HB2.out.alloc (Nat.le_of_lt HD2.out.lt) _
    have H3 := Lib.hid (H0.out.later ((Below.refl _ _).alloc (Nat.le_refl _) (.cells #[.int .i64 0, .int .i64 0] 72)))
    generalize w2.alloc (.cells #[.int .i64 0, .int .i64 0] 72) = w3 at *
    generalize w2.heap.size = fb at *
    clear HD2 HB2 H0
    have c0 := HF3.out.cell 0
    have c1 := HF3.out.cell 1
    have d0 := HD3.out.cell 0
    have df := HD3.out.frozen
    have p3 := H3.out.blk.cell 3
    have p4 := H3.out.blk.cell 4
    simp at c0 c1 d0 p3 p4
    have n1 : fb ≠ db := Blk.typed2 HF3.out HD3.out (by decide)
    have n2 : db ≠ fb := Ne.symm n1
    have n3 : db + 1 ≠ db := by omega
    have n4 : db ≠ db + 1 := by omega
    have HN5 : Hid (OwnN (w3.setCell ⟨db, 0, none⟩ (.slice an t.nodes.length kn)) db (.slice an t.nodes.length kn) t.nodes) := own_base (own_set H3.out.nodes (own_typed H3.out.nodes HD3.out (by decide)) _) (Nat.le_succ _)
    have HA5 : Hid (OwnI (w3.setCell ⟨db, 0, none⟩ (.slice an t.nodes.length kn)) db (.slice aa t.ats.length ka) t.ats) := own_base (own_set H3.out.ats (own_typed H3.out.ats HD3.out (by decide)) _) (Nat.le_succ _)
    go_upto_region 5 with (fail)
    go_region
    go_wp2
    exact bodyPost_ret (v := .tuple #[.agg #[.slice an t.nodes.length kn], .slice aa t.ats.length ka, .int .i64 0, .int .i64 0]) (by simp [results, Tryz.results10, go_sem, d0]) rfl (by
      unfold PParse
      rw [HDB.out]
      exact ⟨_, _, rfl, HN5.out, HA5.out, (HB3.out.setCell (p := ⟨db, 0, none⟩) (Nat.le_refl _) _).drew⟩)
end Go.Proofs.YtpbadglfegcdjaaGreatDoor
/- What a read text's tokens are, for the parser: plain mathematics. -/
namespace Go.Proofs.YtpbadglfegcdjaaGreatDoor
open Go
set_option linter.unusedVariables false
set_option linter.unusedSimpArgs false

theorem textV_len {a t : List UInt8} (h : textV a = some t) : t.length ≤ a.length := by
  unfold textV at h
  split at h
  · cases h
  · cases h; exact Nat.le_refl _
theorem closed_text {c : UInt8} {e : Nat} {l : List UInt8} {f : List UInt8 → One} {t : Tok} {n : Nat} (hf : ∀ a, f a = .tok t n → t.text.length ≤ a.length) (h : closed c e l f = .tok t n) : t.text.length ≤ l.length := by
  unfold closed at h
  cases hc : cutAt c l with
  | none => rw [hc] at h; cases h
  | some p =>
    obtain ⟨a, b⟩ := p
    rw [hc] at h
    have h1 := hf a h
    obtain ⟨h2, _⟩ := cutAt_some hc
    rw [h2]; simp; omega
theorem oneV_text {c : UInt8} {l : List UInt8} {t : Tok} {n : Nat} (h : oneV c l = .tok t n) : t.text.length ≤ l.length := by
  unfold oneV at h
  by_cases e1 : c = 46
  · rw [if_pos e1] at h; cases h; simp
  rw [if_neg e1] at h
  by_cases e2 : c = 40
  · rw [if_pos e2] at h; cases h; simp
  rw [if_neg e2] at h
  by_cases e3 : c = 41
  · rw [if_pos e3] at h; cases h; simp
  rw [if_neg e3] at h
  by_cases e4 : c = 124
  · rw [if_pos e4] at h; cases h; simp
  rw [if_neg e4] at h
  by_cases e5 : c = 42
  · rw [if_pos e5] at h; cases h; simp
  rw [if_neg e5] at h
  by_cases e6 : c = 98
  · rw [if_pos e6] at h; cases h; simp
  rw [if_neg e6] at h
  by_cases e7 : c = 119
  · rw [if_pos e7] at h; cases h; simp
  rw [if_neg e7] at h
  by_cases e8 : c = 60
  · rw [if_pos e8] at h
    refine closed_text (fun a ha => ?_) h
    cases hv : classV a with
    | none => rw [hv] at ha; cases ha
    | some s => rw [hv] at ha; cases ha; simp
  rw [if_neg e8] at h
  by_cases e9 : c = 34
  · rw [if_pos e9] at h
    refine closed_text (fun a ha => ?_) h
    cases hv : textV a with
    | none => rw [hv] at ha; cases ha
    | some s => rw [hv] at ha; cases ha; exact textV_len hv
  rw [if_neg e9] at h
  by_cases e10 : c = 123
  · rw [if_pos e10] at h
    refine closed_text (fun a ha => ?_) h
    cases hv : repV a with
    | none => rw [hv] at ha; cases ha
    | some s =>
      obtain ⟨x, y⟩ := s
      rw [hv] at ha
      simp only at ha
      by_cases hxy : 255 < y ∨ y < x
      · rw [if_pos hxy] at ha; cases ha
      · rw [if_neg hxy] at ha; cases ha; simp
  rw [if_neg e10] at h
  cases h
theorem readL_text : ∀ (l : List UInt8) (p k : Nat) (r : List Tok), readL l p k = .ok r → ∀ t ∈ r, t.text.length ≤ l.length
  | [], p, k, r, h, t, ht => by
    rw [readL_nil] at h; cases h; simp at ht; subst ht; simp
  | c :: l, p, k + 1, r, h, t, ht => by
    have := readL_text l (p + 1) k r h t ht
    simp; omega
  | c :: l, p, 0, r, h, t, ht => by
    rw [readL_c0] at h
    by_cases e : c = 32
    · rw [if_pos e] at h
      have := readL_text l (p + 1) 0 r h t ht
      simp; omega
    · rw [if_neg e] at h
      cases ho : oneV c l with
      | bad e => rw [ho] at h; cases h
      | tok u n =>
        rw [ho] at h; simp only at h
        cases hr : readL l (p + 1) n with
        | error q => rw [hr] at h; cases h
        | ok r' =>
          rw [hr] at h; cases h
          rcases List.mem_cons.1 ht with rfl | ht
          · have := oneV_text ho; simp; omega
          · have := readL_text l (p + 1) n r' hr t ht; simp; omega
theorem rise_len : ∀ (r : List Tok) (lo hi : Nat), r.Pairwise (fun a b => a.at_ < b.at_) → (∀ t ∈ r, lo ≤ t.at_ ∧ t.at_ ≤ hi) → lo ≤ hi + 1 → r.length + lo ≤ hi + 1
  | [], lo, hi, _, _, h => by simpa using h
  | a :: r, lo, hi, hp, hb, h => by
    obtain ⟨h1, h2⟩ := List.pairwise_cons.1 hp
    have ha := hb a (List.mem_cons_self)
    have := rise_len r (a.at_ + 1) hi h2 (fun t ht => ⟨h1 t ht, (hb t (List.mem_cons_of_mem _ ht)).2⟩) (by omega)
    simp; omega
theorem readL_len {l : List UInt8} {r : List Tok} (h : readL l 0 0 = .ok r) : r.length ≤ l.length + 1 := by
  have w := readL_whole l 0 0 r (Nat.zero_le _) h
  have hm : ∀ t ∈ r, 0 ≤ t.at_ ∧ t.at_ ≤ l.length := fun t ht => by
    refine ⟨Nat.zero_le _, ?_⟩
    rcases List.mem_append.1 (by rw [List.dropLast_concat_getLast w.ne]; exact ht : t ∈ r.dropLast ++ [r.getLast w.ne]) with h1 | h1
    · have := (w.kinds t h1).2.2.1; omega
    · rw [List.mem_singleton.1 h1]
      have hl := w.last
      rw [List.getLast?_eq_some_getLast w.ne] at hl
      have := Option.some.inj hl
      rw [this]; simp
  have := rise_len r 0 l.length w.rise hm (by omega)
  omega
theorem readL_ends {l : List UInt8} {r : List Tok} (h : readL l 0 0 = .ok r) : TEnds (r.map tkOfT) := by
  have w := readL_whole l 0 0 r (Nat.zero_le _) h
  have hpos : 0 < r.length := List.length_pos_iff.2 w.ne
  have hat : ∀ j (hj : j < r.length), tkAt (r.map tkOfT) j = tkOfT (r[j]'hj) := fun j hj => by
    unfold tkAt; rw [List.getD_eq_getElem?_getD]; simp [hj]
  refine ⟨by simpa using hpos, ?_, fun p hp => ?_⟩
  · rw [List.length_map, hat _ (by omega)]
    have hl := w.last
    rw [List.getLast?_eq_getElem?, List.getElem?_eq_getElem (by omega)] at hl
    rw [Option.some.inj hl]; rfl
  · rw [List.length_map] at hp
    rw [hat p (by omega)]
    have hm : r[p]'(by omega) ∈ r.dropLast := by
      rw [List.mem_iff_getElem]
      exact ⟨p, by rw [List.length_dropLast]; omega, by rw [List.getElem_dropLast]⟩
    have := (w.kinds _ hm).2.1
    show ((r[p]'(by omega)).kind : Int) ≠ 10
    omega
end Go.Proofs.YtpbadglfegcdjaaGreatDoor
/- The statement PrintBack of layer 6, walked. -/
namespace Go.Proofs.YtpbadglfegcdjaaGreatDoor
open Go Go.RowKit
set_option linter.unusedVariables false
set_option linter.unusedSimpArgs false
set_option maxRecDepth 100000

/-- Two descriptions in their boxes, the tables. -/
structure PbS (w0 : World) (A B : Option Addr) (a b : List Nd) (c1 c2 : Nat) (w : World) : Prop where
  s : RsS w0 A B a b c1 c2 w
  t : T10 w
  u : U8T w
theorem PbS.later {w0 w w' : World} {A B : Option Addr} {a b : List Nd} {c1 c2 : Nat} (h : PbS w0 A B a b c1 c2 w) (hb : Below w.heap.size w w') : PbS w0 A B a b c1 c2 w' := ⟨h.s.later hb, h.t.later hb, h.u.later hb⟩
/-- .. and one that was parsed. -/
structure PkS (w0 : World) (A B : Option Addr) (a b : List Nd) (c1 c2 : Nat) (bc : Nat) (an : Option Addr) (kn : Nat) (w : World) : Prop where
  p : PbS w0 A B a b c1 c2 w
  box : Blk w bc #[.slice an a.length kn] 24
  nd : NRow w an a
theorem PkS.later {w0 w w' : World} {A B : Option Addr} {a b : List Nd} {c1 c2 bc : Nat} {an : Option Addr} {kn : Nat} (h : PkS w0 A B a b c1 c2 bc an kn w) (hb : Below w.heap.size w w') : PkS w0 A B a b c1 c2 bc an kn w' := ⟨h.p.later hb, h.box.later hb, h.nd.later hb⟩
theorem read_okp {l : List UInt8} {r : List Tok} {n : Nat} (h : readL l 0 0 = .ok r) (hn : r.length = n) (w : World) (hT : U8T w) (hl : l.length ≤ 1073741823) :
    Calls Tryz.prog 8 #[.string (bs l)] w (fun e w' => ∃ A c, e = .returned (.tuple #[.slice A n c, .int .i64 0, .int .i64 0]) ∧ TRow w' A r ∧ Below w.heap.size w w' ∧ n ≤ c) := by
  subst hn
  refine (lexread_any l w hT hl).mono fun e w' hp => ?_
  unfold RdPost at hp
  rw [h] at hp; exact hp
theorem toks_txt {l : List UInt8} {r : List Tok} (h : readL l 0 0 = .ok r) (hl : l.length ≤ 281474976710656) : TkTxt' (r.map tkOfT) := fun p => by
  by_cases hp : p < r.length
  · have : tkAt (r.map tkOfT) p = tkOfT (r[p]'hp) := by unfold tkAt; rw [List.getD_eq_getElem?_getD]; simp [hp]
    rw [this]
    have := readL_text l 0 0 r h _ (List.getElem_mem hp)
    show (r[p]'hp).text.length ≤ _
    omega
  · have : tkAt (r.map tkOfT) p = tkEnd := by unfold tkAt; rw [List.getD_eq_getElem?_getD, List.getElem?_eq_none (by rw [List.length_map]; omega)]; rfl
    rw [this]; simp [tkEnd]
/-- Read tokens are parsed. -/
theorem parse_read {l : List UInt8} {r : List Tok} (h : readL l 0 0 = .ok r) (hl : l.length ≤ 1000000) {N : Nat} (hN : r.length = N) {p : PR} (hp : parseP (r.map tkOfT) = p) (A : Option Addr) (c : Nat) (w : World) (hrow : TRow w A r) :
    Calls Tryz.prog 10 #[.slice A N c] w (PParse w p) := by
  have hlen := readL_len h
  have q := parse_any (toks_txt h (by omega)) (readL_ends h) (by rw [List.length_map]; omega) A c w hrow.tk
  rw [List.length_map, hN, hp] at q
  exact q
end Go.Proofs.YtpbadglfegcdjaaGreatDoor
/- How big is what is parsed, and its text, of tokens whose texts are short: plain mathematics. -/
namespace Go.Proofs.YtpbadglfegcdjaaGreatDoor
open Go
set_option linter.unusedVariables false
set_option linter.unusedSimpArgs false

theorem sgs_lenH (l : List Nd) (hok : ∀ j, j < l.length → okN l j (atN l j)) (ht : ∀ n ∈ l, n.text.length ≤ 100) : ∀ (i : Nat), i < l.length → ∀ f : Nat, i < f → ∀ lev, lenO (sgsF clsT bndT l f (i : Int) lev) ≤ (i + 1 - firstP l i) * 1200 := by
  intro i
  induction i using Nat.strongRecOn with
  | ind i ih =>
    intro hi f hf lev
    obtain ⟨f, rfl⟩ : ∃ f', f = f' + 1 := ⟨f - 1, by omega⟩
    rw [sgsF_succ, Int.toNat_natCast]
    have hle := firstP_le l i
    have hcs := (hok i hi).cs rfl
    have htx : (atN l i).text.length ≤ 100 := by
      unfold atN; rw [List.getD_eq_getElem?_getD, List.getElem?_eq_getElem hi]; exact ht _ (List.getElem_mem _)
    have key : ∀ (q : Nat) (lv : Int), q < i → lenO (sgsF clsT bndT l f (q : Int) lv) ≤ (q + 1 - firstP l q) * 1200 := fun q lv h1 => ih q h1 (by omega) f (by omega) lv
    have hp : lenO (outP (sgsF clsT bndT l f) (pcsN clsT bndT (atN l i))) + 2 ≤ (i + 1 - firstP l i) * 1200 := by
      generalize atN l i = n at hcs htx ⊢
      cases hcs with
      | leaf hk hfi =>
        unfold leafK at hk
        rw [hfi]
        have c1 := clsT_bound n.cls
        rcases hk with h | h | h <;> simp only [pcsN, h, Go.Proofs.YtpbadglfegcdjaaGreatDoor.brk] <;> simp [outP_sg, outP_nil, lenO_cons, lenO_nil] <;> omega
      | one hk h0 ha hb h7 hr hc hfi =>
        have hq := firstP_le l (i - 1)
        have K := fun lv => key (i - 1) lv (by omega)
        have e : n.a = ((i - 1 : Nat) : Int) := by omega
        have b1 := bndT_bound n.lo n.hi
        rw [hfi]
        have hkk : n.kind = 6 ∨ n.kind = 7 ∨ n.kind = 8 ∨ n.kind = 9 := by omega
        have K0 := K 0
        have K2 := K 2
        rcases hkk with h | h | h | h <;> simp only [pcsN, h, e, Go.Proofs.YtpbadglfegcdjaaGreatDoor.brk] <;> simp [outP_sg, outP_nd, outP_nil, lenO_cons, lenO_append, lenO_nil] <;> omega
      | two hk h0 hb ha hf0 hl hc hfi =>
        have hq := firstP_le l (i - 1)
        have hq2 := firstP_le l (firstP l (i - 1) - 1)
        have e : n.a = ((firstP l (i - 1) - 1 : Nat) : Int) := by omega
        have e2 : n.b = ((i - 1 : Nat) : Int) := by omega
        have KA := fun lv => key (firstP l (i - 1) - 1) lv (by omega)
        have KB := fun lv => key (i - 1) lv (by omega)
        rw [hfi]
        have A0 := KA 0
        have A1 := KA 1
        have B1 := KB 1
        have B2 := KB 2
        rcases hk with h | h <;> simp only [pcsN, h, e, e2] <;> simp [outP_sg, outP_nd, outP_nil, lenO_cons, lenO_append, lenO_nil] <;> omega
    unfold fullN
    split
    · rw [outP_brk, lenO_cons, lenO_append, lenO_cons, lenO_nil]; simp only [List.length_cons, List.length_nil]; omega
    · omega
theorem textN_lenH {l : List Nd} (hf : Form l) (ht : ∀ n ∈ l, n.text.length ≤ 100) : (textN l).length ≤ l.length * 1200 := by
  have hpos := hf.1
  have := sgs_lenH l hf.2.1 ht (l.length - 1) (by omega) l.length (by omega) 0
  rw [show ((l.length - 1 : Nat) : Int) = (l.length : Int) - 1 by omega, show l.length - 1 + 1 = l.length by omega] at this
  unfold textN
  unfold lenO at this
  exact Nat.le_trans this (Nat.mul_le_mul_right _ (Nat.sub_le _ _))
/-- More than twice as many? -/
def insM : Md → Nat
  | .inside => 1
  | _ => 0
def TxP (M : Nat) (s : PS) : Prop := ∀ n ∈ s.nodes, n.text.length ≤ M
theorem TxP.lay {M : Nat} {s : PS} (h : TxP M s) {n : Nd} (hn : n.text.length ≤ M) (p : Int) : TxP M (s.lay n p) := fun m hm => by
  unfold PS.lay at hm
  split at hm
  · rcases List.mem_append.1 hm with h1 | h1
    · exact h m h1
    · rw [List.mem_singleton.1 h1]; exact hn
  · exact h m hm
/-- How big a run makes it. -/
structure Big (l : List Tk) (M : Nat) (m : Md) (s t : PS) : Prop where
  cnt : t.count + eats m + 2 * s.read ≤ s.count + 2 * t.read + insM m
  le : s.read ≤ t.read
  rd : s.read ≤ l.length → t.read ≤ l.length
  tx : TxP M s → TxP M t
theorem run_big {l : List Tk} {M : Nat} (hM : ∀ p, (tkAt l p).text.length ≤ M) : ∀ (n : Nat) (m : Md) (s : PS) (k : Int) (t : PS), run l n m s = .ok k t → Big l M m s t
  | 0, _, _, _, _, h => by cases h
  | n + 1, .or, s, k, t, h => by
    obtain ⟨a, u, h1, h2⟩ := bind_ok h
    have q1 := run_big hM n _ _ _ _ h1
    have q2 := run_big hM n _ _ _ _ h2
    have c1 := q1.cnt
    have c2 := q2.cnt
    simp only [eats, insM] at c1 c2
    exact ⟨by simp only [eats, insM]; omega, Nat.le_trans q1.le q2.le, fun h => q2.rd (q1.rd h), fun h => q2.tx (q1.tx h)⟩
  | n + 1, .orL a, s, k, t, h => by
    simp only [run] at h
    split at h
    · rename_i hk
      have hin : s.read < l.length := tk_in (by rw [hk]; decide)
      obtain ⟨b, u, h1, h2⟩ := bind_ok h
      have q1 := run_big hM n _ _ _ _ h1
      have q2 := run_big hM n _ _ _ _ h2
      have q3 := lay_read u { kind := 5, a := a, b := b } (-1)
      have c1 := q1.cnt
      have c2 := q2.cnt
      have l1 := q1.le
      have l2 := q2.le
      simp only [eats, insM, PS.next] at c1 c2 l1
      rw [q3.2.2, q3.1] at c2
      rw [q3.1] at l2
      exact ⟨by simp only [eats, insM]; omega, by omega, fun h => q2.rd (by rw [q3.1]; exact q1.rd hin), fun h => q2.tx ((q1.tx h).lay (Nat.zero_le _) _)⟩
    · cases h; exact ⟨by simp only [eats, insM]; omega, Nat.le_refl _, id, id⟩
  | n + 1, .row, s, k, t, h => by
    obtain ⟨a, u, h1, h2⟩ := bind_ok h
    have q1 := run_big hM n _ _ _ _ h1
    have q2 := run_big hM n _ _ _ _ h2
    have c1 := q1.cnt
    have c2 := q2.cnt
    simp only [eats, insM] at c1 c2
    exact ⟨by simp only [eats, insM]; omega, Nat.le_trans q1.le q2.le, fun h => q2.rd (q1.rd h), fun h => q2.tx (q1.tx h)⟩
  | n + 1, .rowL a, s, k, t, h => by
    simp only [run] at h
    split at h
    · obtain ⟨b, u, h1, h2⟩ := bind_ok h
      have q1 := run_big hM n _ _ _ _ h1
      have q2 := run_big hM n _ _ _ _ h2
      have q3 := lay_read u { kind := 4, a := a, b := b } (-1)
      have c1 := q1.cnt
      have c2 := q2.cnt
      have l1 := q1.le
      have l2 := q2.le
      simp only [eats, insM] at c1 c2
      rw [q3.2.2, q3.1] at c2
      rw [q3.1] at l2
      exact ⟨by simp only [eats, insM]; omega, by omega, fun h => q2.rd (by rw [q3.1]; exact q1.rd h), fun h => q2.tx ((q1.tx h).lay (Nat.zero_le _) _)⟩
    · cases h; exact ⟨by simp only [eats, insM]; omega, Nat.le_refl _, id, id⟩
  | n + 1, .post, s, k, t, h => by
    obtain ⟨a, u, h1, h2⟩ := bind_ok h
    have q1 := run_big hM n _ _ _ _ h1
    have q2 := run_big hM n _ _ _ _ h2
    have c1 := q1.cnt
    have c2 := q2.cnt
    simp only [eats, insM] at c1 c2
    exact ⟨by simp only [eats, insM]; omega, Nat.le_trans q1.le q2.le, fun h => q2.rd (q1.rd h), fun h => q2.tx (q1.tx h)⟩
  | n + 1, .postL a, s, k, t, h => by
    simp only [run] at h
    split at h
    · rename_i hk
      have hin : s.read < l.length := tk_in (by rw [hk]; decide)
      have q2 := run_big hM n _ _ _ _ h
      have q3 := lay_read s { kind := 6, a := a } (tkAt l s.read).at_
      have c2 := q2.cnt
      have l2 := q2.le
      simp only [eats, insM, PS.next] at c2 l2
      rw [q3.2.2, q3.1] at c2
      rw [q3.1] at l2
      exact ⟨by simp only [eats, insM]; omega, by omega, fun h => q2.rd (by simp only [PS.next]; rw [q3.1]; exact hin), fun h => q2.tx (show TxP M _ from (h.lay (n := { kind := 6, a := a }) (Nat.zero_le _) _))⟩
    · split at h
      · rename_i hk
        have hin : s.read < l.length := tk_in (by rw [hk]; decide)
        have q2 := run_big hM n _ _ _ _ h
        have q3 := lay_read s { kind := 7, a := a, lo := (tkAt l s.read).lo, hi := (tkAt l s.read).hi } (tkAt l s.read).at_
        have c2 := q2.cnt
        have l2 := q2.le
        simp only [eats, insM, PS.next] at c2 l2
        rw [q3.2.2, q3.1] at c2
        rw [q3.1] at l2
        exact ⟨by simp only [eats, insM]; omega, by omega, fun h => q2.rd (by simp only [PS.next]; rw [q3.1]; exact hin), fun h => q2.tx (show TxP M _ from (h.lay (n := { kind := 7, a := a, lo := (tkAt l s.read).lo, hi := (tkAt l s.read).hi }) (Nat.zero_le _) _))⟩
      · cases h; exact ⟨by simp only [eats, insM]; omega, Nat.le_refl _, id, id⟩
  | n + 1, .atom, s, k, t, h => by
    simp only [run] at h
    have leafC : ∀ {nd : Nd}, nd.text.length ≤ M → s.read < l.length → layK s.next nd (-1) = .ok k t → Big l M .atom s t := fun {nd} hx hin e => by
      cases e
      have q3 := lay_read s.next nd (-1)
      have e2 : s.next.count = s.count := rfl
      have e3 : s.next.read = s.read + 1 := rfl
      exact ⟨by rw [q3.2.2, q3.1, e2, e3]; simp only [eats, insM]; omega, by rw [q3.1, e3]; omega, fun _ => by rw [q3.1, e3]; omega, fun h => TxP.lay (s := s.next) h hx _⟩
    split at h
    · rename_i hk
      exact leafC (Nat.zero_le _) (tk_in (by rw [hk]; decide)) h
    · split at h
      · rename_i hk
        exact leafC (hM _) (tk_in (by rw [hk]; decide)) h
      · split at h
        · have q := run_big hM n _ _ _ _ h
          have c1 := q.cnt
          simp only [eats, insM] at c1
          exact ⟨by simp only [eats, insM]; omega, q.le, q.rd, q.tx⟩
        · split at h
          · rename_i hk
            have hin : s.read < l.length := tk_in (by rw [hk]; decide)
            obtain ⟨b, u, h1, h2⟩ := bind_ok h
            cases h2
            have q3 := lay_read u { kind := 8, a := b } (-1)
            have q := run_big hM n _ _ _ _ h1
            have c1 := q.cnt
            have l1 := q.le
            simp only [eats, insM, PS.next] at c1 l1
            exact ⟨by rw [q3.2.2, q3.1]; simp only [eats, insM]; omega, by rw [q3.1]; omega, fun _ => by rw [q3.1]; exact q.rd hin, fun h => (q.tx h).lay (Nat.zero_le _) _⟩
          · split at h
            · rename_i hk
              have hin : s.read < l.length := tk_in (by rw [hk]; decide)
              obtain ⟨b, u, h1, h2⟩ := bind_ok h
              cases h2
              have q3 := lay_read u { kind := 9, a := b } (-1)
              have q := run_big hM n _ _ _ _ h1
              have c1 := q.cnt
              have l1 := q.le
              simp only [eats, insM, PS.next] at c1 l1
              exact ⟨by rw [q3.2.2, q3.1]; simp only [eats, insM]; omega, by rw [q3.1]; omega, fun _ => by rw [q3.1]; exact q.rd hin, fun h => (q.tx h).lay (Nat.zero_le _) _⟩
            · exact absurd h fault_not_ok
  | n + 1, .group, s, k, t, h => by
    simp only [run] at h
    split at h
    · rename_i hk
      have hin : s.read < l.length := tk_in (by rw [hk]; decide)
      split at h
      · cases h
      · obtain ⟨b, u, h1, h2⟩ := bind_ok h
        split at h2
        · rename_i hk2
          have hin2 : u.read < l.length := tk_in (by rw [hk2]; decide)
          cases h2
          have q := run_big hM n _ _ _ _ h1
          have c1 := q.cnt
          have l1 := q.le
          simp only [eats, insM, PS.next] at c1 l1
          exact ⟨by simp only [eats, insM, PS.next]; omega, by simp only [PS.next]; omega, fun _ => by simp only [PS.next]; omega, fun h => q.tx h⟩
        · exact absurd h2 fault_not_ok
    · exact absurd h fault_not_ok
  | n + 1, .inside, s, k, t, h => by
    simp only [run] at h
    split at h
    · cases h
      have q3 := lay_read s { kind := 1 } (-1)
      exact ⟨by rw [q3.2.2, q3.1]; simp only [eats, insM]; omega, by rw [q3.1]; exact Nat.le_refl _, fun h => by rw [q3.1]; exact h, fun h => h.lay (Nat.zero_le _) _⟩
    · have q := run_big hM n _ _ _ _ h
      have c1 := q.cnt
      simp only [eats, insM] at c1
      exact ⟨by simp only [eats, insM]; omega, q.le, q.rd, q.tx⟩
/-- What is parsed of few tokens with short texts. -/
theorem parse_big {l : List Tk} (hl : TkOk l) {M : Nat} (hM : ∀ p, (tkAt l p).text.length ≤ M) {k : Int} {t : PS} (h : parseP l = .ok k t) : t.nodes.length ≤ 2 * l.length ∧ ∀ n ∈ t.nodes, n.text.length ≤ M := by
  obtain ⟨a, u, h1, h2⟩ := bind_ok h
  split at h2
  · split at h2
    · cases h2
    · rename_i hcnt
      cases h2
      have r := run_form hl _ .or {} 0 k u h1 (by omega) ⟨rfl, fun i hi => by simp at hi⟩ rfl
      have hlen := r.lay.len
      have q := run_big hM _ _ _ _ _ h1
      have c := q.cnt
      have rd := q.rd (Nat.zero_le _)
      simp only [eats, insM] at c
      refine ⟨?_, q.tx (fun n hn => by cases hn)⟩
      show u.nodes.length ≤ _
      have e1 : ({} : PS).count = 0 := rfl
      have e2 : ({} : PS).read = 0 := rfl
      omega
  · exact absurd h2 fault_not_ok
end Go.Proofs.YtpbadglfegcdjaaGreatDoor
