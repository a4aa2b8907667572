/- The parser's fault: walked. -/
import Derived.Test.YtcgjmnhmhiddkaaGreatDoorM12
import Derived.Test.YtcgjmnhmhiddkaaGreatDoorM08
import Derived.Test.YtcgjmnhmhiddkaaGreatDoorM11
import Derived.Laws.MakeOwn
namespace Go.Proofs.YtcgjmnhmhiddkaaGreatDoor
open Go Go.RowKit
set_option linter.unusedVariables false
set_option linter.unusedSimpArgs false
def ftV (e p : Int) : Value := .agg #[.int .i64 e, .int .i64 p]
structure FtS (w0 : World) (pb : Nat) (cs : Array Value) (A : Option Addr) (l : List Tk) (O : Option Addr) (o : List Int) (w : World) : Prop where
  bel : Below w0.heap.size w0 w
  blk : Blk w pb cs 151
  row : TkRow w A l
  opn : IRow w O o
  box : Blk w w0.heap.size #[.int .i64 0, .int .i64 0] 153
theorem FtS.later {w0 : World} {pb : Nat} {cs : Array Value} {A : Option Addr} {l : List Tk} {O : Option Addr} {o : List Int} {w w' : World} (h : FtS w0 pb cs A l O o w) (hb : Below w.heap.size w w') : FtS w0 pb cs A l O o w' :=
  ⟨h.bel.trans (hb.mono h.bel.size), h.blk.later hb, h.row.later hb, h.opn.later hb, h.box.later hb⟩
set_option maxHeartbeats 4000000 in
set_option maxRecDepth 100000 in
theorem fault_any (l : List Tk) (A O : Option Addr) (cp oc : Nat) (s : PS) (v3 v4 v5 : Value) (pb : Nat) (w : World) (hb : Blk w pb #[.slice A l.length cp, .int .i64 (s.read : Int), .slice O s.opn.length oc, v3, v4, v5] 151) (hr : TkRow w A l) (ho : IRow w O s.opn) (hl : l.length ≤ 1073741824) (hrd : s.read ≤ 1073741824) (hol : s.opn.length ≤ 1073741824) (e p : Int) (hf : faultP l s = .bad e p) :
    Calls Tryz.prog 141 #[.pointer (some ⟨pb, 0, none⟩)] w (Ans w (ftV e p)) := by
  have hB := (Below.refl w.heap.size w).alloc (Nat.le_refl _) (.cells #[.int .i64 0, .int .i64 0] 153)
  have HX : Hid (FtS w pb #[.slice A l.length cp, .int .i64 (s.read : Int), .slice O s.opn.length oc, v3, v4, v5] A l O s.opn (w.alloc (.cells #[.int .i64 0, .int .i64 0] 153))) :=
    ⟨hB, hb.alloc _, hr.later hB, ho.later hB, Blk.new w _ _⟩
  have FT : Hid (∀ w', FtS w pb #[.slice A l.length cp, .int .i64 (s.read : Int), .slice O s.opn.length oc, v3, v4, v5] A l O s.opn w' → Calls Tryz.prog 139 #[.pointer (some ⟨pb, 0, none⟩)] w' (Ans w' (.agg (tkC (tkAt l s.read))))) :=
    fun w' h => token_any l A cp s.read _ v3 v4 v5 pb w' h.blk h.row hl hrd
  have hlt0 := hb.lt
  have HFP := Lib.hid hf
  clear hb hr ho hB hf
  unfold faultP at HFP
  generalize tkAt l s.read = x at *
  obtain ⟨o, hoo⟩ : ∃ o, s.opn = o := ⟨_, rfl⟩
  rw [hoo] at HX FT HFP hol
  generalize s.read = r at *
  clear hoo
  go_enter Tryz.func141, Tryz.ntmps141
  go_upto_region 1 with (fail)
  generalize w.alloc (.cells #[.int .i64 0, .int .i64 0] 153) = w1 at *
  go_wp2_with fail
  refine (FT.out _ HX.out).mono ?_; rintro e1 w2 ⟨rfl, hb2⟩
  have HX2 := Lib.hid (HX.out.later hb2)
  clear hb2
  have hk9 := Lib.hid (Blk.new w2 (tkC x) 76)
  have hb9 := Lib.hid ((Below.refl w2.heap.size w2).alloc (Nat.le_refl _) (.cells (tkC x) 76))
  unfold tkC at *
  go_upto_region 2 with (fail)
  generalize w2.alloc (.cells #[.int .i64 x.kind, .int .i64 x.at_, .int .u64 (wd x.cls 0), .int .u64 (wd x.cls 1), .int .u64 (wd x.cls 2), .int .u64 (wd x.cls 3), .string (bs x.text), .int .i64 x.lo, .int .i64 x.hi] 76) = w3 at *
  have HX3 := Lib.hid (HX2.out.later hb9.out)
  clear hb9 HX HX2 FT
  generalize w2.heap.size = tb at *
  obtain ⟨t0, t1, -, -, -, -, -, -, -⟩ := nine_cells hk9.out
  clear hk9
  have f0 := HX3.out.box.cell 0
  have f1 := HX3.out.box.cell 1
  have nf := HX3.out.box.frozen
  have c2 := HX3.out.blk.cell 2
  simp at f0 f1 c2
  have p0 : ∀ v0 : Value, (w3.setCell ⟨w.heap.size, 0, none⟩ v0).cell? ⟨w.heap.size, 0, none⟩ = some v0 := fun v => HX3.out.box.put (by simp) v
  have p1 : ∀ v0 v1 : Value, ((w3.setCell ⟨w.heap.size, 0, none⟩ v0).setCell ⟨w.heap.size, 1, none⟩ v1).cell? ⟨w.heap.size, 1, none⟩ = some v1 := fun v v' => (HX3.out.box.setCell 0 v).put (by simp) v'
  have PE := Lib.hid (fun (u v : Value) => And.intro (((HX3.out.box.setCell 0 u).setCell 1 v).cell 0) (((HX3.out.box.setCell 0 u).setCell 1 v).cell 1))
  have BE := Lib.hid (fun (u v : Value) => (HX3.out.bel.setCell (p := ⟨w.heap.size, 0, none⟩) (Nat.le_refl _) u).setCell (p := ⟨w.heap.size, 1, none⟩) (Nat.le_refl _) v)
  by_cases hk : x.kind = 10
  · have hkb : (x.kind == 10) = true := by rw [hk]; rfl
    have hkd : decide (x.kind = 10) = true := decide_eq_true hk
    rcases List.eq_nil_or_concat o with ho | ⟨o', z, ho⟩
    · subst ho
      have HV : Hid (e = 7 ∧ p = x.at_) := by
        have := HFP.out
        rw [hk] at this
        simp at this
        exact ⟨this.1.symm, this.2.symm⟩
      go_wp2
      obtain ⟨z0, z1⟩ := PE.out (.int .i64 7) (.int .i64 x.at_)
      simp at z0 z1
      exact bodyPost_ret (v := ftV 7 x.at_) (by simp [results, Tryz.results141, go_sem, ftV, z0, z1]) rfl ⟨by rw [HV.out.1, HV.out.2], BE.out _ _⟩
    · have HV : Hid (e = 6 ∧ p = z) := by
        have := HFP.out
        rw [hk, ho] at this
        simp at this
        exact ⟨this.1.symm, this.2.symm⟩
      obtain ⟨n, hn⟩ : ∃ n, n = o'.length := ⟨_, rfl⟩
      have hon : o.length = n + 1 := by rw [ho, hn]; simp
      have hrd2 := HX3.out.opn n (by omega)
      obtain ⟨bo, oo, rfl, -, hc⟩ := hrd2
      have hz : o.getD n 0 = z := by rw [ho, hn]; simp
      rw [hz] at hc
      rw [hon] at c2
      have hnb : n ≤ 1073741823 := by omega
      have hnb2 : (n : Int) ≤ 1073741823 := by omega
      have hnw : wrap64 (n : Int) = (n : Int) := by unfold wrap64; omega
      clear hz ho hn hol
      have hc' : w3.cell? ⟨bo, oo + n, none⟩ = some (.int .i64 z) := hc
      have hge : decide ((n : Int) + 1 - 1 ≥ 0) = true := decide_eq_true (by omega)
      have hge2 : decide ((n : Int) ≥ 0) = true := decide_eq_true (by omega)
      have hge3 : decide (0 ≤ (n : Int)) = true := decide_eq_true (by omega)
      have hge4 : (0 : Int) ≤ (n : Int) := by omega
      have hcast : ((n + 1 : Nat) : Int) - 1 = (n : Int) := by omega
      have hn1 : n < n + 1 := by omega
      go_wp2
      obtain ⟨z0, z1⟩ := PE.out (.int .i64 6) (.int .i64 z)
      simp at z0 z1
      exact bodyPost_ret (v := ftV 6 z) (by simp [results, Tryz.results141, go_sem, ftV, z0, z1]) rfl ⟨by rw [HV.out.1, HV.out.2], BE.out _ _⟩
  · have hkb : (x.kind == 10) = false := beq_false_of_ne hk
    have hkd : decide (x.kind = 10) = false := decide_eq_false hk
    have HV : Hid (e = 7 ∧ p = x.at_) := by
      have := HFP.out
      split at this
      · rename_i h10 _; exact absurd h10 hk
      · cases this; exact ⟨rfl, rfl⟩
    go_wp2
    obtain ⟨z0, z1⟩ := PE.out (.int .i64 7) (.int .i64 x.at_)
    simp at z0 z1
    exact bodyPost_ret (v := ftV 7 x.at_) (by simp [results, Tryz.results141, go_sem, ftV, z0, z1]) rfl ⟨by rw [HV.out.1, HV.out.2], BE.out _ _⟩
theorem Blk.typed2 {w : World} {b c : Nat} {vs us : Array Value} {t u : TypeId} (h : Blk w b vs t) (k : Blk w c us u) (hne : t ≠ u) : b ≠ c := by
  intro e; subst e
  unfold Blk at h k
  rw [h] at k
  have := Option.some.inj k
  injection this with _ h2
  exact hne h2
theorem TkRow.below {w w' : World} {a : Option Addr} {l : List Tk} {B : Nat} (h : TkRow w a l) (ha : ∀ b o, a = some ⟨b, o, none⟩ → b < B) (hb : Below B w w') : TkRow w' a l := fun i hi => by
  obtain ⟨b, off, h1, hlt, hc⟩ := h i hi
  exact ⟨b, off, h1, Nat.lt_of_lt_of_le hlt hb.size, fun j hj => (hb.cell (p := ⟨b, off + i * 9 + j, none⟩) (ha b off h1)).trans (hc j hj)⟩
theorem own_set {w : World} {base size n : Nat} {e : TypeId} {v : Value} {xs : List Value} (h : w.ownsRow base e size v n xs) {a : Addr} (ha : ∀ k, v.ownBlock = some k → k ≠ a.block) (u : Value) : (w.setCell a u).ownsRow base e size v n xs := by
  obtain ⟨h0, ⟨hv, hn⟩ | ⟨g, cap, cur, hv, hb, hg, hr⟩⟩ := h
  · exact ⟨h0, .inl ⟨hv, hn⟩⟩
  · refine ⟨h0, .inr ⟨g, cap, cur, hv, hb, ?_, hr⟩⟩
    have : Blk w g cur e := hg
    exact this.setCell_ne (a := a) (Ne.symm (ha g (by rw [hv]; rfl))) u
theorem own_typed {w : World} {base size n : Nat} {e t : TypeId} {v : Value} {xs : List Value} (h : w.ownsRow base e size v n xs) {g : Nat} {vs : Array Value} (hg : Blk w g vs t) (hne : e ≠ t) : ∀ k, v.ownBlock = some k → k ≠ g := by
  intro k hk
  obtain ⟨h0, ⟨hv, hn⟩ | ⟨g2, cap, cur, hv, hb, hg2, hr⟩⟩ := h
  · rw [hv] at hk; cases hk
  · rw [hv] at hk
    have : g2 = k := by simpa [Value.ownBlock] using hk
    subst this
    exact Blk.typed2 (w := w) (b := g2) (vs := cur) (t := e) hg2 hg hne
structure Pst0 (w : World) (B pb : Nat) (A : Option Addr) (cp : Nat) (l : List Tk) (s : PS) (ov nv av : Value) : Prop where
  blk : Blk w pb #[.slice A l.length cp, .int .i64 (s.read : Int), ov, nv, av, .int .i64 (s.count : Int)] 151
  opn : OwnI w B ov s.opn
  nodes : OwnN w B nv s.nodes
  ats : OwnI w B av s.ats
  apart : ∀ g, ov.ownBlock = some g → av.ownBlock ≠ some g
  row : TkRow w A l
  low : ∀ b o, A = some ⟨b, o, none⟩ → b < B
  base : B ≤ pb
  long : l.length ≤ 16777216
  rd : s.read ≤ 16777216
  ct : s.count ≤ 1073741824
  op : s.opn.length ≤ 16777216
def Pst (w : World) (B pb : Nat) (A : Option Addr) (cp : Nat) (l : List Tk) (s : PS) : Prop := ∃ ov nv av, Pst0 w B pb A cp l s ov nv av
section
variable {w : World} {B pb : Nat} {A : Option Addr} {cp : Nat} {l : List Tk} {s : PS} {ov nv av : Value}
theorem Pst0.later {w' : World} (h : Pst0 w B pb A cp l s ov nv av) (hb : Below w.heap.size w w') : Pst0 w' B pb A cp l s ov nv av :=
  ⟨h.blk.later hb, h.opn.later hb, h.nodes.later hb, h.ats.later hb, h.apart, h.row.later hb, h.low, h.base, h.long, h.rd, h.ct, h.op⟩
theorem Pst0.box (h : Pst0 w B pb A cp l s ov nv av) {g : Nat} {vs : Array Value} {t : TypeId} (hg : Blk w g vs t) (h1 : t ≠ 151) (h2 : t ≠ 3) (h3 : t ≠ 44) (hB : B ≤ g) (o : Nat) (u : Value) : Pst0 (w.setCell ⟨g, o, none⟩ u) B pb A cp l s ov nv av :=
  ⟨h.blk.setCell_ne (a := ⟨g, o, none⟩) (Ne.symm (Blk.typed2 h.blk hg (Ne.symm h1))) u, own_set h.opn (own_typed h.opn hg (Ne.symm h2)) u, own_set h.nodes (own_typed h.nodes hg (Ne.symm h3)) u, own_set h.ats (own_typed h.ats hg (Ne.symm h2)) u, h.apart,
    h.row.below h.low ((Below.refl B w).setCell (p := ⟨g, o, none⟩) hB u), h.low, h.base, h.long, h.rd, h.ct, h.op⟩
theorem Pst0.next (h : Pst0 w B pb A cp l s ov nv av) (hr : s.read < 16777216) : Pst0 (w.setCell ⟨pb, 1, none⟩ (.int .i64 ((s.read : Int) + 1))) B pb A cp l s.next ov nv av := by
  have hb := h.blk.setCell 1 (.int .i64 ((s.read : Int) + 1))
  exact ⟨by simpa [PS.next] using hb, own_set h.opn (own_typed h.opn h.blk (by decide)) _, own_set h.nodes (own_typed h.nodes h.blk (by decide)) _, own_set h.ats (own_typed h.ats h.blk (by decide)) _, h.apart,
    h.row.below h.low ((Below.refl B w).setCell (p := ⟨pb, 1, none⟩) h.base _), h.low, h.base, h.long, by simp only [PS.next]; omega, h.ct, h.op⟩
theorem Pst0.token (h : Pst0 w B pb A cp l s ov nv av) : Calls Tryz.prog 139 #[.pointer (some ⟨pb, 0, none⟩)] w (Ans w (.agg (tkC (tkAt l s.read)))) :=
  token_any l A cp s.read ov nv av _ pb w h.blk h.row (Nat.le_trans h.long (by decide)) (Nat.le_trans h.rd (by decide))
theorem Pst0.fault (h : Pst0 w B pb A cp l s ov nv av) {e p : Int} (hf : faultP l s = .bad e p) : Calls Tryz.prog 141 #[.pointer (some ⟨pb, 0, none⟩)] w (Ans w (ftV e p)) := by
  obtain ⟨O, oc, hv, hi⟩ := h.opn.row
  have hb := h.blk
  rw [hv] at hb
  exact fault_any l A O cp oc s nv av _ pb w hb h.row hi (Nat.le_trans h.long (by decide)) (Nat.le_trans h.rd (by decide)) (Nat.le_trans h.op (by decide)) e p hf
end
theorem fault_some (l : List Tk) (s : PS) : ∃ e p, faultP l s = .bad e p := by
  unfold faultP; split <;> exact ⟨_, _, rfl⟩
structure Fr (B : Nat) (w w' : World) : Prop where
  bel : Below B w w'
  typ : ∀ b vs, Blk w b vs 153 → Blk w' b vs 153
section
variable {a w w' : World} {B pb : Nat} {A : Option Addr} {cp : Nat} {l : List Tk} {s : PS} {ov nv av : Value}
theorem Fr.of (h : Below w.heap.size w w') (hB : B ≤ w.heap.size) : Fr B w w' := ⟨h.mono hB, fun b vs hb => hb.later h⟩
theorem Fr.trans {u : World} (h : Fr B a w) (k : Fr B w u) : Fr B a u := ⟨h.bel.trans k.bel, fun b vs hb => k.typ b vs (h.typ b vs hb)⟩
theorem Fr.alloc (h : Fr B a w) (hB : B ≤ w.heap.size) (o : Obj) : Fr B a (w.alloc o) := ⟨h.bel.alloc hB o, fun b vs hb => (h.typ b vs hb).alloc o⟩
theorem Fr.setB {g : Nat} {vs : Array Value} {t : TypeId} (h : Fr B a w) (hg : Blk w g vs t) (ht : t ≠ 153) (hB : B ≤ g) (o : Nat) (v : Value) : Fr B a (w.setCell ⟨g, o, none⟩ v) :=
  ⟨h.bel.setCell (p := ⟨g, o, none⟩) hB v, fun b us hb => (h.typ b us hb).setCell_ne (a := ⟨g, o, none⟩) (Blk.typed2 hg (h.typ b us hb) ht) v⟩
theorem Fr.setP0 (h : Fr B a w) (hP : Pst0 w B pb A cp l s ov nv av) (o : Nat) (v : Value) : Fr B a (w.setCell ⟨pb, o, none⟩ v) := h.setB hP.blk (by decide) hP.base o v
theorem Fr.setP (h : Fr B a w) (hP : Pst w B pb A cp l s) (o : Nat) (v : Value) : Fr B a (w.setCell ⟨pb, o, none⟩ v) := by obtain ⟨o1, o2, o3, h0⟩ := hP; exact h.setP0 h0 o v
theorem Fr.row {base size n : Nat} {e : TypeId} {v : Value} {xs : List Value} (h : Fr B a w) (hr : w.ownsRow base e size v n xs) (hb : B ≤ base) (he : e ≠ 153) (hB : B ≤ w.heap.size) (hg : w.grownBy w' v.ownBlock) : Fr B a w' :=
  ⟨h.bel.grown hg hB fun k hk => Nat.le_trans hb (World.ownsRow.lt hr k hk).1, fun b us hk => by
    have h1 := h.typ b us hk
    refine (hg.block b h1.lt (fun e2 => ?_)).trans h1
    exact own_typed hr h1 he b e2.symm rfl⟩
theorem fr9 (h : Fr B a w) {g : Nat} {c0 c1 c2 c3 c4 c5 c6 c7 c8 : Value} (hg : Blk w g #[c0, c1, c2, c3, c4, c5, c6, c7, c8] 76) (hB : B ≤ g) (v0 v1 v2 v3 v4 v5 v6 v7 v8 : Value) :
    Fr B a (((((((((w.setCell ⟨g, 0, none⟩ v0).setCell ⟨g, 1, none⟩ v1).setCell ⟨g, 2, none⟩ v2).setCell ⟨g, 3, none⟩ v3).setCell ⟨g, 4, none⟩ v4).setCell ⟨g, 5, none⟩ v5).setCell ⟨g, 6, none⟩ v6).setCell ⟨g, 7, none⟩ v7).setCell ⟨g, 8, none⟩ v8) := by
  have ht : 76 ≠ 153 := by decide
  have g1 := hg.setCell 0 v0
  have g2 := g1.setCell 1 v1
  have g3 := g2.setCell 2 v2
  have g4 := g3.setCell 3 v3
  have g5 := g4.setCell 4 v4
  have g6 := g5.setCell 5 v5
  have g7 := g6.setCell 6 v6
  have g8 := g7.setCell 7 v7
  exact ((((((((h.setB hg ht hB 0 v0).setB g1 ht hB 1 v1).setB g2 ht hB 2 v2).setB g3 ht hB 3 v3).setB g4 ht hB 4 v4).setB g5 ht hB 5 v5).setB g6 ht hB 6 v6).setB g7 ht hB 7 v7).setB g8 ht hB 8 v8
end
def ftE (e p : Int) : Ending := .panicked [{ v := .iface 153 (ftV e p), recovered := false }]
def RunPost (B pb : Nat) (A : Option Addr) (cp : Nat) (l : List Tk) (w : World) (r : PR) (e : Ending) (w' : World) : Prop := match r with
  | .ok k t => e = .returned (.int .i64 k) ∧ Pst w' B pb A cp l t ∧ Fr B w w'
  | .bad er p => e = ftE er p ∧ Fr B w w'
  | .out => False
theorem intsV_app (l m : List Int) : intsV (l ++ m) = intsV l ++ intsV m := by simp [intsV]
theorem IRow.news {w : World} {b o : Nat} {r : List Int} (h : IRow w (some ⟨b, o, none⟩) r) : ∀ (j : Nat) (u : Value), (intsV r)[j]? = some u → w.cell? ((⟨b, o, none⟩ : Addr).add j) = some u := fun j u hu => by
  have hj : j < r.length := by
    have := (List.getElem?_eq_some_iff.1 hu).1
    rwa [intsV_length] at this
  obtain ⟨b', o', e1, -, e2⟩ := h j hj
  cases e1
  have e3 : (intsV r)[j]? = some (.int .i64 (r.getD j 0)) := by unfold intsV; simp [hj]
  rw [e3] at hu
  cases hu
  have hadd : (⟨b, o, none⟩ : Addr).add j = ⟨b, o + j, none⟩ := by unfold Addr.add; split <;> simp_all
  rw [hadd]; exact e2
theorem intsV_ones (r : List Int) : ∀ u ∈ intsV r, u.oneCell' = true := fun u hu => by
  obtain ⟨x, -, rfl⟩ := List.mem_map.1 hu
  rfl
structure IR (base : Nat) (L : List Int) (w w' : World) : Prop where
  out : base ≤ w.heap.size → (Below base w w' ∧ (∀ v n, OwnI w base v (L.take n) → OwnI w' base v (L.take n)) ∧ (∀ g vs, Blk w g vs 3 → vs.size ≤ 1 → Blk w' g vs 3) ∧ (∀ g vs t, t ≠ 3 → Blk w g vs t → Blk w' g vs t))
theorem IR.of {base : Nat} {L : List Int} (w w' : World) (hb : Below w.heap.size w w') : IR base L w w' := ⟨fun h => ⟨hb.mono h, fun v n k => k.later hb, fun g vs k _ => k.later hb, fun g vs t _ k => k.later hb⟩⟩
theorem take_mix {L : List Int} {cur : List Value} {p q n : Nat} {r : List Int} (hpq : p + q ≤ L.length) (sz : p + q ≤ cur.length) (hu : cur.take (L.take n).length = intsV (L.take n)) (hr : (L.drop p).take q = r) :
    (cur.take p ++ intsV r ++ cur.drop (p + q)).take (L.take n).length = intsV (L.take n) := by
  apply List.ext_getElem?
  intro j
  have hj : (L.take n).length = min n L.length := List.length_take ..
  have lr : (intsV r).length = q := by rw [intsV_length, ← hr, List.length_take, List.length_drop]; omega
  have lp : (cur.take p).length = p := by rw [List.length_take]; omega
  have hu2 : ∀ i, i < (L.take n).length → cur[i]? = (intsV (L.take n))[i]? := fun i hi => by
    rw [← hu, List.getElem?_take, if_pos hi]
  rw [List.getElem?_take]
  by_cases h : j < (L.take n).length
  · rw [if_pos h]
    rcases Nat.lt_or_ge j p with h1 | h1
    · rw [List.append_assoc, List.getElem?_append_left (by omega), List.getElem?_take, if_pos h1]; exact hu2 j h
    · rcases Nat.lt_or_ge j (p + q) with h2 | h2
      · rw [List.append_assoc, List.getElem?_append_right (by omega), lp, List.getElem?_append_left (by omega), ← hr]
        unfold intsV
        rw [List.getElem?_map, List.getElem?_map, List.getElem?_take, if_pos (by omega), List.getElem?_drop, List.getElem?_take, if_pos (by omega), show p + (j - p) = j by omega]
      · rw [List.getElem?_append_right (by rw [List.length_append, lp, lr]; exact h2), List.length_append, lp, lr, List.getElem?_drop, show p + q + (j - (p + q)) = j by omega]; exact hu2 j h
  · rw [if_neg h, List.getElem?_eq_none (by rw [intsV_length]; omega)]
set_option maxRecDepth 100000 in
theorem wp_append_ints {w : World} {o : Oper} {a : Act} {K : Act → World → Prop} {Q : Exit → Act → World → Prop} (s x : Operand)
    (ho : o.op = .call { callee := .builtin .append, args := #[s, x], argTypes := #[46, 46] })
    (base : Nat) (v : Value) (L : List Int) (p q : Nat) (hpq : p + q ≤ L.length) (hq : 0 < q) (h2q : 2 ≤ p + q ∨ ∃ g, v = .slice (some ⟨g, 0, none⟩) 0 0) (hs : a.eval s = v) (hown : OwnI w base v (L.take p))
    (b oo c : Nat) (hx : a.eval x = .slice (some ⟨b, oo, none⟩) q c) (hr0 : IRow w (some ⟨b, oo, none⟩) ((L.drop p).take q)) (hlen : L.length < 536870912) (hbase : base ≤ w.heap.size)
    (h : ∀ v' w', OwnI w' base v' (L.take (p + q)) → IR base L w w' → K (a.put o.dst v') w') : o.wp Tryz.prog a w K Q := by
  obtain ⟨ib, hib, hz0, hz1, hz2⟩ := info_parts infoI
  obtain ⟨l, hl⟩ : ∃ l, L.take p = l := ⟨_, rfl⟩
  obtain ⟨r, hr⟩ : ∃ r, (L.drop p).take q = r := ⟨_, rfl⟩
  have hlr : L.take (p + q) = l ++ r := by rw [← hl, ← hr, List.take_add]
  have ll : l.length = p := by rw [← hl, List.length_take]; omega
  have lr : r.length = q := by rw [← hr, List.length_take, List.length_drop]; omega
  rw [hl] at hown
  rw [hr] at hr0
  rw [hlr] at h
  have hown0 : w.ownsRow base 3 1 v l.length (intsV l) := hown
  obtain ⟨v', w', hrun, h2, h3, _⟩ := run_append_own (P := Tryz.prog) w base 46 o.type 3 ib _ 1 8 Tryz.underlying46 hib hz0 hz1 hz2 rfl (by decide) v l.length (intsV l) hown0 ⟨b, oo, none⟩ r.length c (intsV r) (by rw [intsV_length, Nat.mul_one]) hr0.news (intsV_ones r) (by unfold maxLen; omega) (by omega) hbase
  have h2' : OwnI w' base v' (l ++ r) := by unfold OwnI; rw [List.length_append, intsV_app]; exact h2
  have hbel : Below base w w' := (Below.refl base w).grown h3 hbase (fun k hk => (World.ownsRow.lt hown0 k hk).1)
  have hoth : ∀ g vs t, t ≠ 3 → Blk w g vs t → Blk w' g vs t := fun g vs t ht k => (h3.block g k.lt (fun e => own_typed hown0 k (Ne.symm ht) g e.symm rfl)).trans k
  have keep : (∀ u n, OwnI w base u (L.take n) → OwnI w' base u (L.take n)) ∧ (∀ g vs, Blk w g vs 3 → vs.size ≤ 1 → Blk w' g vs 3) := by
    rcases hown.2 with ⟨hv0, hn⟩ | ⟨g', cap, cur, hv0, hbg, hgg, hnc, hcm, hcs, htake⟩
    · refine ⟨fun u n hu => World.ownsRow.kept hu h3 (by rw [hv0]; cases hh : u.ownBlock <;> simp [Value.ownBlock]), fun g vs hk _ => (h3.block g hk.lt (by rw [hv0]; simp [Value.ownBlock])).trans hk⟩
    · by_cases hroom : l.length + r.length ≤ cap
      · have hr2 := run_append_room (P := Tryz.prog) w 46 o.type 3 ib Tryz.underlying46 hib g' l.length cap cur hgg ⟨b, oo, none⟩ r.length c (intsV r) (by rw [hz1, intsV_length, Nat.mul_one]) hr0.news (intsV_ones r) hroom (by rw [hz1, hcs, Nat.mul_one, intsV_length]; omega)
        rw [← hv0, hrun] at hr2
        simp only [Result.ok.injEq] at hr2
        have hv := hr2.1
        obtain ⟨q0, ⟨q1, _⟩ | ⟨g2, cap2, cur2, q1, q2, q3, q4, q5, q6, q7⟩⟩ := h2'
        · rw [hv] at q1; cases q1
        · rw [hv] at q1
          simp only [Value.slice.injEq, Option.some.injEq, Addr.mk.injEq, and_true] at q1
          obtain ⟨rfl, q8, rfl⟩ := q1
          refine ⟨fun u n hu => ?u1, fun g vs hk hsz => ?u3⟩
          case u1 =>
            by_cases hgu : u.ownBlock = some g'
            · obtain ⟨u0, ⟨u1, _⟩ | ⟨g3, cap3, cur3, u1, u2, u3, u4, u5, u6, u7⟩⟩ := hu
              · rw [u1] at hgu; cases hgu
              · rw [u1] at hgu
                have e3 : g3 = g' := by simpa [Value.ownBlock] using hgu
                subst e3
                have e4 := u3.symm.trans hgg
                simp only [Option.some.injEq, Obj.cells.injEq, and_true] at e4
                have e5 : cap3 = cap := by rw [e4] at u6; omega
                refine ⟨u0, .inr ⟨g3, cap, cur2, by rw [u1, e5], hbg, q3, by omega, hcm, q6, ?_⟩⟩
                rw [Nat.mul_one] at u7 q7 htake ⊢
                have hcur : cur3 = cur := e4
                subst hcur
                have hc2 : cur2 = (cur3.toList.take (l.length * 1) ++ intsV r ++ cur3.toList.drop (l.length * 1 + (intsV r).length)).toArray := by
                  have e := setRow_heap w g3 cur3 (cur3.toList.take (l.length * 1) ++ intsV r ++ cur3.toList.drop (l.length * 1 + (intsV r).length)).toArray 3 (0, 0) hgg
                  have e6 := hr2.2
                  rw [hz1] at e6
                  rw [← e6] at e
                  have e7 := q3.symm.trans e
                  simpa using e7
                rw [Nat.mul_one, intsV_length, ll, lr] at hc2
                have sz : p + q ≤ cur3.toList.length := by simp; omega
                rw [hc2, List.toList_toArray]
                exact take_mix hpq sz u7 hr
            · exact World.ownsRow.kept hu h3 (by right; rw [hv0]; exact hgu)
          case u3 =>
            by_cases hgu : g = g'
            · subst hgu
              have e4 := (show w.heap[g]? = _ from hk).symm.trans hgg
              simp only [Option.some.injEq, Obj.cells.injEq, and_true] at e4
              rw [e4, hcs] at hsz
              rcases h2q with h2q | ⟨g9, hv9⟩
              · omega
              · rw [hv0] at hv9
                injection hv9 with _ _ h9
                omega
            · exact (h3.block g hk.lt (fun e => hgu (by rw [hv0] at e; simpa [Value.ownBlock] using e))).trans hk
      · have holds := World.ownsRow.cells (w := w) (base := base) (e := 3) (size := 1) (v := v) (n := l.length) (xs := intsV l) hown0 (g := g') (by rw [hv0]; rfl)
        have hr2 := run_append_grow (P := Tryz.prog) w 46 o.type 3 ib _ Tryz.underlying46 hib hz0 ⟨g', 0, none⟩ l.length cap (intsV l) (by rw [hz1, intsV_length, Nat.mul_one]) holds ⟨b, oo, none⟩ r.length c (intsV r) (by rw [hz1, intsV_length, Nat.mul_one]) hr0.news (by omega) (by omega) (by rw [hz2]; exact growslice_fits (by omega) (by omega))
        rw [← hv0, hrun] at hr2
        simp only [Result.ok.injEq] at hr2
        have hb : Below w.heap.size w w' := by rw [hr2.2]; exact ((Below.refl _ w).drew).alloc (Nat.le_refl _) _
        exact ⟨fun u n hu => hu.later hb, fun g vs hk _ => hk.later hb⟩
  unfold Oper.wp execOp
  simp only [ho, resolve, invoke, builtin, Sem.run_bind, Sem.run_pure, Result.andThen_ok, List.map_toArray, List.map_cons, List.map_nil, hs, hx]
  rw [← lr, hrun]
  exact h v' w' h2' ⟨fun _ => ⟨hbel, keep.1, keep.2, hoth⟩⟩
theorem OwnI.empty {w : World} {base b : Nat} (h : Blk w b #[] 3) (hb : base ≤ b) (L : List Int) : OwnI w base (.slice (some ⟨b, 0, none⟩) 0 0) (L.take 0) := by
  rw [List.take_zero]
  exact ⟨rfl, .inr ⟨b, 0, #[], rfl, hb, h, Nat.le_refl _, by unfold maxLen; omega, rfl, rfl⟩⟩
theorem NRow.ofBlk {w : World} {b : Nat} {n : Nd} (h : Blk w b (ndC n) 44) : NRow w (some ⟨b, 0, none⟩) [n] := fun i hi => by
  obtain rfl : i = 0 := by simpa using hi
  refine ⟨b, 0, rfl, h.lt, fun j hj => ?_⟩
  rw [Nat.zero_mul, Nat.zero_add, h.cell]; rfl
set_option maxHeartbeats 8000000 in
set_option maxRecDepth 100000 in
theorem leaf_any (n : Nd) (hm : MvOk 0 n) (w : World) : Calls Tryz.prog 182 #[.agg (ndC n)] w (DPost w [n]) := by
  have HMV : Hid (mvN 0 n = n) := mvN_zero n
  have HM := Lib.hid hm
  have hb := ((Below.refl w.heap.size w).alloc (Nat.le_refl _) (.cells (ndC n) 44)).alloc (by simp) (.cells #[.slice none 0 0] 25)
  have HB := Lib.hid hb
  have HN : Hid (Blk ((w.alloc (.cells (ndC n) 44)).alloc (.cells #[.slice none 0 0] 25)) w.heap.size (ndC n) 44) := (Blk.new w _ _).alloc _
  have HR : Hid (Blk ((w.alloc (.cells (ndC n) 44)).alloc (.cells #[.slice none 0 0] 25)) (w.heap.size + 1) #[.slice none 0 0] 25) := by
    unfold Hid
    have := Blk.new (w.alloc (.cells (ndC n) 44)) #[.slice none 0 0] 25
    simpa using this
  clear hm hb
  unfold ndC at HB HN HR ⊢
  go_enter Tryz.func182, Tryz.ntmps182
  go_upto_region 1 with (fail)
  generalize (w.alloc (.cells #[.int .i64 n.kind, .int .i64 n.a, .int .i64 n.b, .int .i64 n.lo, .int .i64 n.hi, .int .u64 (wd n.cls 0), .int .u64 (wd n.cls 1), .int .u64 (wd n.cls 2), .int .u64 (wd n.cls 3), .string (bs n.text)] 44)).alloc (.cells #[.slice none 0 0] 25) = w1 at *
  obtain ⟨g0, g1, g2, g3, g4, g5, g6, g7, g8, g9⟩ := ten_cells HN.out
  have HB2 := Lib.hid ((Below.refl w1.heap.size w1).alloc (Nat.le_refl _) (.cells (ndC n) 44))
  have HN2 := Lib.hid (NRow.ofBlk (Blk.new w1 (ndC n) 44))
  have hlow : w.heap.size + 1 < w1.heap.size := HR.out.lt
  have LC : Hid (Calls Tryz.prog 185 #[.slice none 0 0, .slice (some ⟨w1.heap.size, 0, none⟩) 1 1, .int .i64 0] (w1.alloc (.cells (ndC n) 44)) (LaidPost (w1.alloc (.cells (ndC n) 44)) (w1.alloc (.cells (ndC n) 44)).heap.size [n])) := by
    have h := laid_any [] [n] 0 (.slice none 0 0) (some ⟨w1.heap.size, 0, none⟩) 1 (w1.alloc (.cells (ndC n) 44)).heap.size _ (OwnN.nil _ _) HN2.out (fun b o e => by cases e; simp) (Nat.le_refl _) (by simp) (fun x hx => by simp at hx; subst hx; exact HM.out)
    unfold Hid
    rw [List.nil_append, List.map_cons, List.map_nil, HMV.out] at h
    exact h
  unfold ndC at HB2 HN2 LC
  go_wp2_with fail
  refine LC.out.mono ?_; intro e w4 hp; obtain ⟨s, rfl, ho, hb4⟩ := hp
  obtain ⟨A2, c2, rfl, -⟩ := ho.row
  have HO := Lib.hid ho
  have hb5 := hb4.trans ((Below.refl _ _))
  have HR4 := Lib.hid ((HR.out.later HB2.out).later hb4)
  have HB4 := Lib.hid ((HB.out.trans (HB2.out.mono HB.out.size)).trans (hb4.mono (by simp; omega)))
  clear hb4 hb5 ho LC g0 g1 g2 g3 g4 g5 g6 g7 g8 g9
  have r0 := HR4.out.cell 0
  simp at r0
  have rf := HR4.out.frozen
  have s0 := HR4.out.put10 (o := 0) (by simp)
  go_wp2
  exact bodyPost_ret (v := .agg #[.slice A2 1 c2]) (by simp [results, Tryz.results182, go_sem, s0]) rfl ⟨_, rfl, (HO.out.setCell_ne (a := ⟨w.heap.size + 1, 0, none⟩) (by simp; omega) _).weaken (by simp; omega), HB4.out.setCell (p := ⟨w.heap.size + 1, 0, none⟩) (Nat.le_succ _) _⟩
end Go.Proofs.YtcgjmnhmhiddkaaGreatDoor
