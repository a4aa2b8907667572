/- The parser's token, and what begins: walked. -/
import Derived.Test.YtcgjmnhmhiddkaaGreatDoorM12
import Derived.Test.YtcgjmnhmhiddkaaGreatDoorM03
import Derived.Test.YtcgjmnhmhiddkaaGreatDoorM16
namespace Go.Proofs.YtcgjmnhmhiddkaaGreatDoor
open Go Go.RowKit
set_option linter.unusedVariables false
set_option linter.unusedSimpArgs false

def At9K (w : World) (b o : Nat) (x : Tk) : Prop := w.cell? ⟨b, o, none⟩ = some (.int .i64 x.kind) ∧ w.cell? ⟨b, o + 1, none⟩ = some (.int .i64 x.at_) ∧ w.cell? ⟨b, o + 2, none⟩ = some (.int .u64 (wd x.cls 0)) ∧ w.cell? ⟨b, o + 3, none⟩ = some (.int .u64 (wd x.cls 1)) ∧
  w.cell? ⟨b, o + 4, none⟩ = some (.int .u64 (wd x.cls 2)) ∧ w.cell? ⟨b, o + 5, none⟩ = some (.int .u64 (wd x.cls 3)) ∧ w.cell? ⟨b, o + 6, none⟩ = some (.string (bs x.text)) ∧ w.cell? ⟨b, o + 7, none⟩ = some (.int .i64 x.lo) ∧ w.cell? ⟨b, o + 8, none⟩ = some (.int .i64 x.hi)
theorem TkRow.at {w : World} {A : Option Addr} {a : List Tk} (h : TkRow w A a) {i : Nat} (hi : i < a.length) {b o : Nat} (hA : A = some ⟨b, o, none⟩) : At9K w b (o + i * 9) (tkAt a i) := by
  obtain ⟨b', o', h1, _, h2⟩ := h i hi
  rw [hA] at h1; cases h1
  exact ⟨h2 0 (by omega), h2 1 (by omega), h2 2 (by omega), h2 3 (by omega), h2 4 (by omega), h2 5 (by omega), h2 6 (by omega), h2 7 (by omega), h2 8 (by omega)⟩
/-- What token holds while it runs. -/
structure TkS (w0 : World) (pb : Nat) (cs : Array Value) (A : Option Addr) (l : List Tk) (w : World) : Prop where
  bel : Below w0.heap.size w0 w
  blk : Blk w pb cs 151
  row : TkRow w A l
  box : Blk w w0.heap.size z9 76
theorem TkS.later {w0 : World} {pb : Nat} {cs : Array Value} {A : Option Addr} {l : List Tk} {w w' : World} (h : TkS w0 pb cs A l w) (hb : Below w.heap.size w w') : TkS w0 pb cs A l w' :=
  ⟨h.bel.trans (hb.mono h.bel.size), h.blk.later hb, h.row.later hb, h.box.later hb⟩
set_option maxHeartbeats 2000000 in
set_option maxRecDepth 100000 in
theorem begins_any (t : Tk) (w : World) : Calls Tryz.prog 155 #[.agg (tkC t)] w (Ans w (.bool (begK t.kind))) := by
  have HB := Lib.hid (Blk.new w (tkC t) 76)
  have hbel := Lib.hid ((Below.refl w.heap.size w).alloc (Nat.le_refl _) (.cells (tkC t) 76))
  have HK : Hid (∀ b, begK t.kind = b → b = begK t.kind) := fun b h => h.symm
  unfold tkC at HB hbel ⊢
  go_enter Tryz.func155, Tryz.ntmps155
  go_upto_region 1 with (fail)
  generalize w.alloc (.cells #[.int .i64 t.kind, .int .i64 t.at_, .int .u64 (wd t.cls 0), .int .u64 (wd t.cls 1), .int .u64 (wd t.cls 2), .int .u64 (wd t.cls 3), .string (bs t.text), .int .i64 t.lo, .int .i64 t.hi] 76) = w1 at *
  obtain ⟨e0, -, -, -, -, -, -, -, -⟩ := nine_cells HB.out
  generalize t.kind = k at *
  by_cases hk : begK k = true
  · unfold begK at hk ⊢
    simp only [Bool.or_eq_true, decide_eq_true_eq] at hk
    rcases hk with (((rfl | rfl) | rfl) | rfl) | rfl
    all_goals (go_wp2; exact bodyPost_ret (v := .bool true) (by simp [results, Tryz.results155, go_sem]) rfl ⟨rfl, hbel.out⟩)
  · have HF : Hid (begK k = false) := by unfold Hid; simpa using hk
    unfold begK at hk
    simp only [Bool.or_eq_true, decide_eq_true_eq, not_or] at hk
    obtain ⟨⟨⟨⟨k1, k2⟩, k3⟩, k8⟩, k9⟩ := hk
    have b1 := beq_false_of_ne k1
    have b2 := beq_false_of_ne k2
    have b3 := beq_false_of_ne k3
    have b8 := beq_false_of_ne k8
    have b9 := beq_false_of_ne k9
    go_wp2
    exact bodyPost_ret (v := .bool false) (by simp [results, Tryz.results155, go_sem]) rfl ⟨by rw [HF.out], hbel.out⟩
set_option maxHeartbeats 2000000 in
set_option maxRecDepth 100000 in
theorem token_any (l : List Tk) (A : Option Addr) (cp r : Nat) (v2 v3 v4 v5 : Value) (pb : Nat) (w : World) (hb : Blk w pb #[.slice A l.length cp, .int .i64 (r : Int), v2, v3, v4, v5] 151) (hr : TkRow w A l) (hl : l.length ≤ 1073741824) (hrd : r ≤ 1073741824) :
    Calls Tryz.prog 139 #[.pointer (some ⟨pb, 0, none⟩)] w (Ans w (.agg (tkC (tkAt l r)))) := by
  have HX : Hid (TkS w pb #[.slice A l.length cp, .int .i64 (r : Int), v2, v3, v4, v5] A l (w.alloc (.cells z9 76))) :=
    ⟨(Below.refl _ _).alloc (Nat.le_refl _) _, hb.alloc _, hr.later ((Below.refl _ _).alloc (Nat.le_refl _) _), Blk.new w _ _⟩
  have HR := Lib.hid hr
  have hlt0 := hb.lt
  clear hb hr
  unfold z9 at HX
  go_enter Tryz.func139, Tryz.ntmps139
  go_upto_region 1 with (fail)
  generalize w.alloc (.cells #[.int .i64 0, .int .i64 0, .int .u64 0, .int .u64 0, .int .u64 0, .int .u64 0, .string ⟨#[]⟩, .int .i64 0, .int .i64 0] 76) = w1 at *
  by_cases hlt : r < l.length
  · have hd : decide ((r : Int) < (l.length : Int)) = true := decide_eq_true (by omega)
    have hltz : (r : Int) < (l.length : Int) := by omega
    obtain ⟨ba, oa, rfl, _, _⟩ := HR.out r hlt
    have FA := Lib.hid (fun (w' : World) (h : TkRow w' (some ⟨ba, oa, none⟩) l) => h.at hlt rfl)
    generalize tkAt l r = x at *
    refine wp_region_stable (S := (TkS w pb #[.slice (some ⟨ba, oa, none⟩) l.length cp, .int .i64 (r : Int), v2, v3, v4, v5] (some ⟨ba, oa, none⟩) l)) (hSt := fun _ _ h hb => h.later hb) (plan := [[(0, none)], [(3, some 0)], [(4, some 1)], [(5, some 2)], [(0, none)], [(7, some 4)], [(8, some 5)], [(9, some 6)], [(10, some 7)], [(6, some 3), (11, some 8)]]) (by kernel_rfl) (by kernel_rfl) (by kernel_rfl) ?hS ?_
    rotate_left
    iterate 10 first
      | (refine chain_skip (by rfl) (by rfl) ?_)
      | (apply chain_want (by rfl)
         · intro act wx hS hr
           simp at hr
           have c0 := hS.blk.cell 0
           have c1 := hS.blk.cell 1
           simp at c0 c1
           have cl := hS.blk.lt
           go_simp
           (try go_ints)
           first
             | exact Done.same
        )
    show ∀ w', _ → _
    intro wz hz
    simp [Act.put]
    case hS => exact HX.out
    have HZ := Lib.hid hz
    clear hz
    go_upto_region 2 with (fail)
    refine wp_region_stable_last (S := (TkS w pb #[.slice (some ⟨ba, oa, none⟩) l.length cp, .int .i64 (r : Int), v2, v3, v4, v5] (some ⟨ba, oa, none⟩) l)) (hSt := fun _ _ h hb => h.later hb) (plan := [[(0, none)], [(13, some 0)], [(14, some 1)], [(15, some 2)], [(0, none)], [(17, some 4)], [(18, some 5)], [(19, some 6)], [(16, some 3), (20, some 7)], [(21, some 8)]]) rfl (by kernel_rfl) (by kernel_rfl) (by kernel_rfl) (by kernel_rfl) ?hS ?_
    rotate_left
    simp only [List.dropLast]
    iterate 10 first
      | (refine chain_skip (by rfl) (by rfl) ?_)
      | (apply chain_want (by rfl)
         · intro act wx hS hr
           simp at hr
           have c0 := hS.blk.cell 0
           have c1 := hS.blk.cell 1
           simp at c0 c1
           have cl := hS.blk.lt
           have g := FA.out _ hS.row
           unfold At9K at g
           obtain ⟨g0, g1, g2, g3, g4, g5, g6, g7, g8⟩ := g
           go_simp
           (try go_ints)
           first
             | exact Done.same (v := .agg (tkC x))
             | exact Done.same
        )
    show ∀ w', _ → _
    intro wy hy
    simp [Act.put]
    case hS => exact HZ.out
    obtain ⟨n0, n1, n2, n3, n4, n5, n6, n7, n8⟩ := nine hy.box
    obtain ⟨m0, m1, m2, m3, m4, m5, m6, m7, m8⟩ := nine_cells hy.box
    have nf := hy.box.frozen
    have hbl := Lib.hid (below9 hy.bel (Nat.le_refl _) (.int .i64 x.kind) (.int .i64 x.at_) (.int .u64 (wd x.cls 0)) (.int .u64 (wd x.cls 1)) (.int .u64 (wd x.cls 2)) (.int .u64 (wd x.cls 3)) (.string (bs x.text)) (.int .i64 x.lo) (.int .i64 x.hi))
    have hbk := Lib.hid (nine_cells (nine_blk hy.box (.int .i64 x.kind) (.int .i64 x.at_) (.int .u64 (wd x.cls 0)) (.int .u64 (wd x.cls 1)) (.int .u64 (wd x.cls 2)) (.int .u64 (wd x.cls 3)) (.string (bs x.text)) (.int .i64 x.lo) (.int .i64 x.hi)))
    clear hy
    unfold tkC
    go_wp2
    obtain ⟨r0, r1, r2, r3, r4, r5, r6, r7, r8⟩ := hbk.out
    exact bodyPost_ret (v := .agg #[.int .i64 x.kind, .int .i64 x.at_, .int .u64 (wd x.cls 0), .int .u64 (wd x.cls 1), .int .u64 (wd x.cls 2), .int .u64 (wd x.cls 3), .string (bs x.text), .int .i64 x.lo, .int .i64 x.hi]) (by simp [results, Tryz.results139, go_sem, r0, r1, r2, r3, r4, r5, r6, r7, r8]) rfl ⟨rfl, hbl.out⟩
  · have hd : decide ((r : Int) < (l.length : Int)) = false := decide_eq_false (by omega)
    have HE : Hid (tkC (tkAt l r) = #[.int .i64 10, .int .i64 0, .int .u64 0, .int .u64 0, .int .u64 0, .int .u64 0, .string ⟨#[]⟩, .int .i64 0, .int .i64 0]) := by
      unfold Hid; rw [← tk_zero]; congr 1
      unfold tkAt; rw [List.getD_eq_getElem?_getD, List.getElem?_eq_none (by omega)]; rfl
    refine wp_region_stable (S := (TkS w pb #[.slice A l.length cp, .int .i64 (r : Int), v2, v3, v4, v5] A l)) (hSt := fun _ _ h hb => h.later hb) (plan := [[(0, none)], [(3, some 0)], [(4, some 1)], [(5, some 2)], [(0, none)], [(7, some 4)], [(8, some 5)], [(9, some 6)], [(10, some 7)], [(6, some 3), (11, some 8)]]) (by kernel_rfl) (by kernel_rfl) (by kernel_rfl) ?hS ?_
    rotate_left
    iterate 10 first
      | (refine chain_skip (by rfl) (by rfl) ?_)
      | (apply chain_want (by rfl)
         · intro act wx hS hr
           simp at hr
           have c0 := hS.blk.cell 0
           have c1 := hS.blk.cell 1
           simp at c0 c1
           have cl := hS.blk.lt
           go_simp
           (try go_ints)
           first
             | exact Done.same
        )
    show ∀ w', _ → _
    intro wz hz
    simp [Act.put]
    case hS => exact HX.out
    obtain ⟨n0, n1, n2, n3, n4, n5, n6, n7, n8⟩ := nine hz.box
    obtain ⟨m0, m1, m2, m3, m4, m5, m6, m7, m8⟩ := nine_cells hz.box
    have nf := hz.box.frozen
    have hbl := Lib.hid (below9 hz.bel (Nat.le_refl _) (.int .i64 10) (.int .i64 0) (.int .u64 0) (.int .u64 0) (.int .u64 0) (.int .u64 0) (.string ⟨#[]⟩) (.int .i64 0) (.int .i64 0))
    have hbk := Lib.hid (nine_cells (nine_blk hz.box (.int .i64 10) (.int .i64 0) (.int .u64 0) (.int .u64 0) (.int .u64 0) (.int .u64 0) (.string ⟨#[]⟩) (.int .i64 0) (.int .i64 0)))
    clear hz
    go_wp2
    obtain ⟨r0, r1, r2, r3, r4, r5, r6, r7, r8⟩ := hbk.out
    exact bodyPost_ret (v := .agg #[.int .i64 10, .int .i64 0, .int .u64 0, .int .u64 0, .int .u64 0, .int .u64 0, .string ⟨#[]⟩, .int .i64 0, .int .i64 0]) (by simp [results, Tryz.results139, go_sem, r0, r1, r2, r3, r4, r5, r6, r7, r8]) rfl ⟨by rw [HE.out], hbl.out⟩
end Go.Proofs.YtcgjmnhmhiddkaaGreatDoor
/- The parser's fault: walked. -/
namespace Go.Proofs.YtcgjmnhmhiddkaaGreatDoor
open Go Go.RowKit
set_option linter.unusedVariables false
set_option linter.unusedSimpArgs false

/-- The value of a fault. -/
def ftV (e p : Int) : Value := .agg #[.int .i64 e, .int .i64 p]
structure FtS (w0 : World) (pb : Nat) (cs : Array Value) (A : Option Addr) (l : List Tk) (O : Option Addr) (o : List Int) (w : World) : Prop where
  bel : Below w0.heap.size w0 w
  blk : Blk w pb cs 151
  row : TkRow w A l
  opn : IRow w O o
  box : Blk w w0.heap.size #[.int .i64 0, .int .i64 0] 153
theorem FtS.later {w0 : World} {pb : Nat} {cs : Array Value} {A : Option Addr} {l : List Tk} {O : Option Addr} {o : List Int} {w w' : World} (h : FtS w0 pb cs A l O o w) (hb : Below w.heap.size w w') : FtS w0 pb cs A l O o w' :=
  ⟨h.bel.trans (hb.mono h.bel.size), h.blk.later hb, h.row.later hb, h.opn.later hb, h.box.later hb⟩
set_option maxHeartbeats 4000000 in
set_option maxRecDepth 100000 in
theorem fault_any (l : List Tk) (A O : Option Addr) (cp oc : Nat) (s : PS) (v3 v4 v5 : Value) (pb : Nat) (w : World) (hb : Blk w pb #[.slice A l.length cp, .int .i64 (s.read : Int), .slice O s.opn.length oc, v3, v4, v5] 151) (hr : TkRow w A l) (ho : IRow w O s.opn) (hl : l.length ≤ 1073741824) (hrd : s.read ≤ 1073741824) (hol : s.opn.length ≤ 1073741824) (e p : Int) (hf : faultP l s = .bad e p) :
    Calls Tryz.prog 141 #[.pointer (some ⟨pb, 0, none⟩)] w (Ans w (ftV e p)) := by
  have hB := (Below.refl w.heap.size w).alloc (Nat.le_refl _) (.cells #[.int .i64 0, .int .i64 0] 153)
  have HX : Hid (FtS w pb #[.slice A l.length cp, .int .i64 (s.read : Int), .slice O s.opn.length oc, v3, v4, v5] A l O s.opn (w.alloc (.cells #[.int .i64 0, .int .i64 0] 153))) :=
    ⟨hB, hb.alloc _, hr.later hB, ho.later hB, Blk.new w _ _⟩
  have FT : Hid (∀ w', FtS w pb #[.slice A l.length cp, .int .i64 (s.read : Int), .slice O s.opn.length oc, v3, v4, v5] A l O s.opn w' → Calls Tryz.prog 139 #[.pointer (some ⟨pb, 0, none⟩)] w' (Ans w' (.agg (tkC (tkAt l s.read))))) :=
    fun w' h => token_any l A cp s.read _ v3 v4 v5 pb w' h.blk h.row hl hrd
  have hlt0 := hb.lt
  have HFP := Lib.hid hf
  clear hb hr ho hB hf
  unfold faultP at HFP
  generalize tkAt l s.read = x at *
  obtain ⟨o, hoo⟩ : ∃ o, s.opn = o := ⟨_, rfl⟩
  rw [hoo] at HX FT HFP hol
  generalize s.read = r at *
  clear hoo
  go_enter Tryz.func141, Tryz.ntmps141
  go_upto_region 1 with (fail)
  generalize w.alloc (.cells #[.int .i64 0, .int .i64 0] 153) = w1 at *
  go_wp2_with fail
  refine (FT.out _ HX.out).mono ?_; rintro e1 w2 ⟨rfl, hb2⟩
  have HX2 := Lib.hid (HX.out.later hb2)
  clear hb2
  have hk9 := Lib.hid (Blk.new w2 (tkC x) 76)
  have hb9 := Lib.hid ((Below.refl w2.heap.size w2).alloc (Nat.le_refl _) (.cells (tkC x) 76))
  unfold tkC at *
  go_upto_region 2 with (fail)
  generalize w2.alloc (.cells #[.int .i64 x.kind, .int .i64 x.at_, .int .u64 (wd x.cls 0), .int .u64 (wd x.cls 1), .int .u64 (wd x.cls 2), .int .u64 (wd x.cls 3), .string (bs x.text), .int .i64 x.lo, .int .i64 x.hi] 76) = w3 at *
  have HX3 := Lib.hid (HX2.out.later hb9.out)
  clear hb9 HX HX2 FT
  generalize w2.heap.size = tb at *
  obtain ⟨t0, t1, -, -, -, -, -, -, -⟩ := nine_cells hk9.out
  clear hk9
  have f0 := HX3.out.box.cell 0
  have f1 := HX3.out.box.cell 1
  have nf := HX3.out.box.frozen
  have c2 := HX3.out.blk.cell 2
  simp at f0 f1 c2
  have p0 : ∀ v0 : Value, (w3.setCell ⟨w.heap.size, 0, none⟩ v0).cell? ⟨w.heap.size, 0, none⟩ = some v0 := fun v => HX3.out.box.put (by simp) v
  have p1 : ∀ v0 v1 : Value, ((w3.setCell ⟨w.heap.size, 0, none⟩ v0).setCell ⟨w.heap.size, 1, none⟩ v1).cell? ⟨w.heap.size, 1, none⟩ = some v1 := fun v v' => (HX3.out.box.setCell 0 v).put (by simp) v'
  have PE := Lib.hid (fun (u v : Value) => And.intro (((HX3.out.box.setCell 0 u).setCell 1 v).cell 0) (((HX3.out.box.setCell 0 u).setCell 1 v).cell 1))
  have BE := Lib.hid (fun (u v : Value) => (HX3.out.bel.setCell (p := ⟨w.heap.size, 0, none⟩) (Nat.le_refl _) u).setCell (p := ⟨w.heap.size, 1, none⟩) (Nat.le_refl _) v)
  by_cases hk : x.kind = 10
  · have hkb : (x.kind == 10) = true := by rw [hk]; rfl
    have hkd : decide (x.kind = 10) = true := decide_eq_true hk
    rcases List.eq_nil_or_concat o with ho | ⟨o', z, ho⟩
    · subst ho
      have HV : Hid (e = 7 ∧ p = x.at_) := by
        have := HFP.out
        rw [hk] at this
        simp at this
        exact ⟨this.1.symm, this.2.symm⟩
      go_wp2
      obtain ⟨z0, z1⟩ := PE.out (.int .i64 7) (.int .i64 x.at_)
      simp at z0 z1
      exact bodyPost_ret (v := ftV 7 x.at_) (by simp [results, Tryz.results141, go_sem, ftV, z0, z1]) rfl ⟨by rw [HV.out.1, HV.out.2], BE.out _ _⟩
    · have HV : Hid (e = 6 ∧ p = z) := by
        have := HFP.out
        rw [hk, ho] at this
        simp at this
        exact ⟨this.1.symm, this.2.symm⟩
      obtain ⟨n, hn⟩ : ∃ n, n = o'.length := ⟨_, rfl⟩
      have hon : o.length = n + 1 := by rw [ho, hn]; simp
      have hrd2 := HX3.out.opn n (by omega)
      obtain ⟨bo, oo, rfl, -, hc⟩ := hrd2
      have hz : o.getD n 0 = z := by rw [ho, hn]; simp
      rw [hz] at hc
      rw [hon] at c2
      have hnb : n ≤ 1073741823 := by omega
      have hnb2 : (n : Int) ≤ 1073741823 := by omega
      have hnw : wrap64 (n : Int) = (n : Int) := by unfold wrap64; omega
      clear hz ho hn hol
      have hc' : w3.cell? ⟨bo, oo + n, none⟩ = some (.int .i64 z) := hc
      have hge : decide ((n : Int) + 1 - 1 ≥ 0) = true := decide_eq_true (by omega)
      have hge2 : decide ((n : Int) ≥ 0) = true := decide_eq_true (by omega)
      have hge3 : decide (0 ≤ (n : Int)) = true := decide_eq_true (by omega)
      have hge4 : (0 : Int) ≤ (n : Int) := by omega
      have hcast : ((n + 1 : Nat) : Int) - 1 = (n : Int) := by omega
      have hn1 : n < n + 1 := by omega
      go_wp2
      obtain ⟨z0, z1⟩ := PE.out (.int .i64 6) (.int .i64 z)
      simp at z0 z1
      exact bodyPost_ret (v := ftV 6 z) (by simp [results, Tryz.results141, go_sem, ftV, z0, z1]) rfl ⟨by rw [HV.out.1, HV.out.2], BE.out _ _⟩
  · have hkb : (x.kind == 10) = false := beq_false_of_ne hk
    have hkd : decide (x.kind = 10) = false := decide_eq_false hk
    have HV : Hid (e = 7 ∧ p = x.at_) := by
      have := HFP.out
      split at this
      · rename_i h10 _; exact absurd h10 hk
      · cases this; exact ⟨rfl, rfl⟩
    go_wp2
    obtain ⟨z0, z1⟩ := PE.out (.int .i64 7) (.int .i64 x.at_)
    simp at z0 z1
    exact bodyPost_ret (v := ftV 7 x.at_) (by simp [results, Tryz.results141, go_sem, ftV, z0, z1]) rfl ⟨by rw [HV.out.1, HV.out.2], BE.out _ _⟩
end Go.Proofs.YtcgjmnhmhiddkaaGreatDoor
/- What the parser holds, in memory. -/
namespace Go.Proofs.YtcgjmnhmhiddkaaGreatDoor
open Go Go.RowKit
set_option linter.unusedVariables false
set_option linter.unusedSimpArgs false

theorem Blk.typed2 {w : World} {b c : Nat} {vs us : Array Value} {t u : TypeId} (h : Blk w b vs t) (k : Blk w c us u) (hne : t ≠ u) : b ≠ c := by
  intro e; subst e
  unfold Blk at h k
  rw [h] at k
  have := Option.some.inj k
  injection this with _ h2
  exact hne h2
theorem TkRow.below {w w' : World} {a : Option Addr} {l : List Tk} {B : Nat} (h : TkRow w a l) (ha : ∀ b o, a = some ⟨b, o, none⟩ → b < B) (hb : Below B w w') : TkRow w' a l := fun i hi => by
  obtain ⟨b, off, h1, hlt, hc⟩ := h i hi
  exact ⟨b, off, h1, Nat.lt_of_lt_of_le hlt hb.size, fun j hj => (hb.cell (p := ⟨b, off + i * 9 + j, none⟩) (ha b off h1)).trans (hc j hj)⟩
/-- A row of its own, when a cell of another block is stored to. -/
theorem own_set {w : World} {base size n : Nat} {e : TypeId} {v : Value} {xs : List Value} (h : w.ownsRow base e size v n xs) {a : Addr} (ha : ∀ k, v.ownBlock = some k → k ≠ a.block) (u : Value) : (w.setCell a u).ownsRow base e size v n xs := by
  obtain ⟨h0, ⟨hv, hn⟩ | ⟨g, cap, cur, hv, hb, hg, hr⟩⟩ := h
  · exact ⟨h0, .inl ⟨hv, hn⟩⟩
  · refine ⟨h0, .inr ⟨g, cap, cur, hv, hb, ?_, hr⟩⟩
    have : Blk w g cur e := hg
    exact this.setCell_ne (a := a) (Ne.symm (ha g (by rw [hv]; rfl))) u
/-- A row's block is none of another type. -/
theorem own_typed {w : World} {base size n : Nat} {e t : TypeId} {v : Value} {xs : List Value} (h : w.ownsRow base e size v n xs) {g : Nat} {vs : Array Value} (hg : Blk w g vs t) (hne : e ≠ t) : ∀ k, v.ownBlock = some k → k ≠ g := by
  intro k hk
  obtain ⟨h0, ⟨hv, hn⟩ | ⟨g2, cap, cur, hv, hb, hg2, hr⟩⟩ := h
  · rw [hv] at hk; cases hk
  · rw [hv] at hk
    have : g2 = k := by simpa [Value.ownBlock] using hk
    subst this
    exact Blk.typed2 (w := w) (b := g2) (vs := cur) (t := e) hg2 hg hne
/-- What the parser holds: ov, nv, av are the rows of what is open, of nodes, of their places. -/
structure Pst0 (w : World) (B pb : Nat) (A : Option Addr) (cp : Nat) (l : List Tk) (s : PS) (ov nv av : Value) : Prop where
  blk : Blk w pb #[.slice A l.length cp, .int .i64 (s.read : Int), ov, nv, av, .int .i64 (s.count : Int)] 151
  opn : OwnI w B ov s.opn
  nodes : OwnN w B nv s.nodes
  ats : OwnI w B av s.ats
  apart : ∀ g, ov.ownBlock = some g → av.ownBlock ≠ some g
  row : TkRow w A l
  low : ∀ b o, A = some ⟨b, o, none⟩ → b < B
  base : B ≤ pb
  long : l.length ≤ 16777216
  rd : s.read ≤ 16777216
  ct : s.count ≤ 1073741824
  op : s.opn.length ≤ 16777216
def Pst (w : World) (B pb : Nat) (A : Option Addr) (cp : Nat) (l : List Tk) (s : PS) : Prop := ∃ ov nv av, Pst0 w B pb A cp l s ov nv av
section
variable {w : World} {B pb : Nat} {A : Option Addr} {cp : Nat} {l : List Tk} {s : PS} {ov nv av : Value}
theorem Pst0.later {w' : World} (h : Pst0 w B pb A cp l s ov nv av) (hb : Below w.heap.size w w') : Pst0 w' B pb A cp l s ov nv av :=
  ⟨h.blk.later hb, h.opn.later hb, h.nodes.later hb, h.ats.later hb, h.apart, h.row.later hb, h.low, h.base, h.long, h.rd, h.ct, h.op⟩
/-- A box of another type is stored to. -/
theorem Pst0.box (h : Pst0 w B pb A cp l s ov nv av) {g : Nat} {vs : Array Value} {t : TypeId} (hg : Blk w g vs t) (h1 : t ≠ 151) (h2 : t ≠ 3) (h3 : t ≠ 44) (hB : B ≤ g) (o : Nat) (u : Value) : Pst0 (w.setCell ⟨g, o, none⟩ u) B pb A cp l s ov nv av :=
  ⟨h.blk.setCell_ne (a := ⟨g, o, none⟩) (Ne.symm (Blk.typed2 h.blk hg (Ne.symm h1))) u, own_set h.opn (own_typed h.opn hg (Ne.symm h2)) u, own_set h.nodes (own_typed h.nodes hg (Ne.symm h3)) u, own_set h.ats (own_typed h.ats hg (Ne.symm h2)) u, h.apart,
    h.row.below h.low ((Below.refl B w).setCell (p := ⟨g, o, none⟩) hB u), h.low, h.base, h.long, h.rd, h.ct, h.op⟩
/-- A token more is read. -/
theorem Pst0.next (h : Pst0 w B pb A cp l s ov nv av) (hr : s.read < 16777216) : Pst0 (w.setCell ⟨pb, 1, none⟩ (.int .i64 ((s.read : Int) + 1))) B pb A cp l s.next ov nv av := by
  have hb := h.blk.setCell 1 (.int .i64 ((s.read : Int) + 1))
  exact ⟨by simpa [PS.next] using hb, own_set h.opn (own_typed h.opn h.blk (by decide)) _, own_set h.nodes (own_typed h.nodes h.blk (by decide)) _, own_set h.ats (own_typed h.ats h.blk (by decide)) _, h.apart,
    h.row.below h.low ((Below.refl B w).setCell (p := ⟨pb, 1, none⟩) h.base _), h.low, h.base, h.long, by simp only [PS.next]; omega, h.ct, h.op⟩
theorem Pst0.token (h : Pst0 w B pb A cp l s ov nv av) : Calls Tryz.prog 139 #[.pointer (some ⟨pb, 0, none⟩)] w (Ans w (.agg (tkC (tkAt l s.read)))) :=
  token_any l A cp s.read ov nv av _ pb w h.blk h.row (Nat.le_trans h.long (by decide)) (Nat.le_trans h.rd (by decide))
theorem Pst0.fault (h : Pst0 w B pb A cp l s ov nv av) {e p : Int} (hf : faultP l s = .bad e p) : Calls Tryz.prog 141 #[.pointer (some ⟨pb, 0, none⟩)] w (Ans w (ftV e p)) := by
  obtain ⟨O, oc, hv, hi⟩ := h.opn.row
  have hb := h.blk
  rw [hv] at hb
  exact fault_any l A O cp oc s nv av _ pb w hb h.row hi (Nat.le_trans h.long (by decide)) (Nat.le_trans h.rd (by decide)) (Nat.le_trans h.op (by decide)) e p hf
end
theorem fault_some (l : List Tk) (s : PS) : ∃ e p, faultP l s = .bad e p := by
  unfold faultP; split <;> exact ⟨_, _, rfl⟩
/-- Below a base nothing turns; and no box of a fault does. -/
structure Fr (B : Nat) (w w' : World) : Prop where
  bel : Below B w w'
  typ : ∀ b vs, Blk w b vs 153 → Blk w' b vs 153
section
variable {a w w' : World} {B pb : Nat} {A : Option Addr} {cp : Nat} {l : List Tk} {s : PS} {ov nv av : Value}
theorem Fr.of (h : Below w.heap.size w w') (hB : B ≤ w.heap.size) : Fr B w w' := ⟨h.mono hB, fun b vs hb => hb.later h⟩
theorem Fr.trans {u : World} (h : Fr B a w) (k : Fr B w u) : Fr B a u := ⟨h.bel.trans k.bel, fun b vs hb => k.typ b vs (h.typ b vs hb)⟩
theorem Fr.alloc (h : Fr B a w) (hB : B ≤ w.heap.size) (o : Obj) : Fr B a (w.alloc o) := ⟨h.bel.alloc hB o, fun b vs hb => (h.typ b vs hb).alloc o⟩
theorem Fr.setB {g : Nat} {vs : Array Value} {t : TypeId} (h : Fr B a w) (hg : Blk w g vs t) (ht : t ≠ 153) (hB : B ≤ g) (o : Nat) (v : Value) : Fr B a (w.setCell ⟨g, o, none⟩ v) :=
  ⟨h.bel.setCell (p := ⟨g, o, none⟩) hB v, fun b us hb => (h.typ b us hb).setCell_ne (a := ⟨g, o, none⟩) (Blk.typed2 hg (h.typ b us hb) ht) v⟩
theorem Fr.setP0 (h : Fr B a w) (hP : Pst0 w B pb A cp l s ov nv av) (o : Nat) (v : Value) : Fr B a (w.setCell ⟨pb, o, none⟩ v) := h.setB hP.blk (by decide) hP.base o v
theorem Fr.setP (h : Fr B a w) (hP : Pst w B pb A cp l s) (o : Nat) (v : Value) : Fr B a (w.setCell ⟨pb, o, none⟩ v) := by obtain ⟨o1, o2, o3, h0⟩ := hP; exact h.setP0 h0 o v
/-- A row of its own grows, whose type is no fault's. -/
theorem Fr.row {base size n : Nat} {e : TypeId} {v : Value} {xs : List Value} (h : Fr B a w) (hr : w.ownsRow base e size v n xs) (hb : B ≤ base) (he : e ≠ 153) (hB : B ≤ w.heap.size) (hg : w.grownBy w' v.ownBlock) : Fr B a w' :=
  ⟨h.bel.grown hg hB fun k hk => Nat.le_trans hb (World.ownsRow.lt hr k hk).1, fun b us hk => by
    have h1 := h.typ b us hk
    refine (hg.block b h1.lt (fun e2 => ?_)).trans h1
    exact own_typed hr h1 he b e2.symm rfl⟩
theorem fr9 (h : Fr B a w) {g : Nat} {c0 c1 c2 c3 c4 c5 c6 c7 c8 : Value} (hg : Blk w g #[c0, c1, c2, c3, c4, c5, c6, c7, c8] 76) (hB : B ≤ g) (v0 v1 v2 v3 v4 v5 v6 v7 v8 : Value) :
    Fr B a (((((((((w.setCell ⟨g, 0, none⟩ v0).setCell ⟨g, 1, none⟩ v1).setCell ⟨g, 2, none⟩ v2).setCell ⟨g, 3, none⟩ v3).setCell ⟨g, 4, none⟩ v4).setCell ⟨g, 5, none⟩ v5).setCell ⟨g, 6, none⟩ v6).setCell ⟨g, 7, none⟩ v7).setCell ⟨g, 8, none⟩ v8) := by
  have ht : 76 ≠ 153 := by decide
  have g1 := hg.setCell 0 v0
  have g2 := g1.setCell 1 v1
  have g3 := g2.setCell 2 v2
  have g4 := g3.setCell 3 v3
  have g5 := g4.setCell 4 v4
  have g6 := g5.setCell 5 v5
  have g7 := g6.setCell 6 v6
  have g8 := g7.setCell 7 v7
  exact ((((((((h.setB hg ht hB 0 v0).setB g1 ht hB 1 v1).setB g2 ht hB 2 v2).setB g3 ht hB 3 v3).setB g4 ht hB 4 v4).setB g5 ht hB 5 v5).setB g6 ht hB 6 v6).setB g7 ht hB 7 v7).setB g8 ht hB 8 v8
end
/-- How a call of the parser ends. -/
def ftE (e p : Int) : Ending := .panicked [{ v := .iface 153 (ftV e p), recovered := false }]
def RunPost (B pb : Nat) (A : Option Addr) (cp : Nat) (l : List Tk) (w : World) (r : PR) (e : Ending) (w' : World) : Prop := match r with
  | .ok k t => e = .returned (.int .i64 k) ∧ Pst w' B pb A cp l t ∧ Fr B w w'
  | .bad er p => e = ftE er p ∧ Fr B w w'
  | .out => False
end Go.Proofs.YtcgjmnhmhiddkaaGreatDoor
/- The parser's want: walked. -/
namespace Go.Proofs.YtcgjmnhmhiddkaaGreatDoor
open Go Go.RowKit
set_option linter.unusedVariables false
set_option linter.unusedSimpArgs false

/-- A token's box is stored to whole. -/
theorem Pst0.box9 {w : World} {B pb : Nat} {A : Option Addr} {cp : Nat} {l : List Tk} {s : PS} {ov nv av : Value} (h : Pst0 w B pb A cp l s ov nv av) {g : Nat} {c0 c1 c2 c3 c4 c5 c6 c7 c8 : Value} (hg : Blk w g #[c0, c1, c2, c3, c4, c5, c6, c7, c8] 76) (hB : B ≤ g) (v0 v1 v2 v3 v4 v5 v6 v7 v8 : Value) :
    Pst0 (((((((((w.setCell ⟨g, 0, none⟩ v0).setCell ⟨g, 1, none⟩ v1).setCell ⟨g, 2, none⟩ v2).setCell ⟨g, 3, none⟩ v3).setCell ⟨g, 4, none⟩ v4).setCell ⟨g, 5, none⟩ v5).setCell ⟨g, 6, none⟩ v6).setCell ⟨g, 7, none⟩ v7).setCell ⟨g, 8, none⟩ v8) B pb A cp l s ov nv av := by
  have n1 : 76 ≠ 151 := by decide
  have n2 : 76 ≠ 3 := by decide
  have n3 : 76 ≠ 44 := by decide
  have g1 := hg.setCell 0 v0
  have g2 := g1.setCell 1 v1
  have g3 := g2.setCell 2 v2
  have g4 := g3.setCell 3 v3
  have g5 := g4.setCell 4 v4
  have g6 := g5.setCell 5 v5
  have g7 := g6.setCell 6 v6
  have g8 := g7.setCell 7 v7
  exact ((((((((h.box hg n1 n2 n3 hB 0 v0).box g1 n1 n2 n3 hB 1 v1).box g2 n1 n2 n3 hB 2 v2).box g3 n1 n2 n3 hB 3 v3).box g4 n1 n2 n3 hB 4 v4).box g5 n1 n2 n3 hB 5 v5).box g6 n1 n2 n3 hB 6 v6).box g7 n1 n2 n3 hB 7 v7).box g8 n1 n2 n3 hB 8 v8
section
variable {w : World} {B pb : Nat} {A : Option Addr} {cp : Nat} {l : List Tk} {s : PS} {ov nv av : Value}
set_option maxHeartbeats 4000000 in
set_option maxRecDepth 100000 in
theorem want_bad (hP : Pst0 w B pb A cp l s ov nv av) {k e p : Int} (hk : (tkAt l s.read).kind ≠ k) (hf : faultP l s = .bad e p) :
    Calls Tryz.prog 118 #[.pointer (some ⟨pb, 0, none⟩), .int .i64 k] w (fun e' w' => e' = ftE e p ∧ Below w.heap.size w w') := by
  have HF := Lib.hid hf
  clear hf
  have HP1 : Hid (Pst0 (w.alloc (.cells z9 76)) B pb A cp l s ov nv av) := hP.later ((Below.refl _ _).alloc (Nat.le_refl _) _)
  have HB1 := Lib.hid ((Below.refl w.heap.size w).alloc (Nat.le_refl _) (.cells z9 76))
  have HX1 := Lib.hid (Blk.new w z9 76)
  have hlt0 := hP.blk.lt
  have hBw : B ≤ w.heap.size := Nat.le_of_lt (Nat.lt_of_le_of_lt hP.base hlt0)
  clear hP
  unfold z9 at HP1 HB1 HX1
  go_enter Tryz.func118, Tryz.ntmps118
  go_upto_region 1 with (fail)
  generalize w.alloc (.cells #[.int .i64 0, .int .i64 0, .int .u64 0, .int .u64 0, .int .u64 0, .int .u64 0, .string ⟨#[]⟩, .int .i64 0, .int .i64 0] 76) = w1 at *
  go_wp2_with fail
  refine (HP1.out.token).mono ?_; rintro e1 w2 ⟨rfl, hb2⟩
  have HP2 := Lib.hid (HP1.out.later hb2)
  have HX2 := Lib.hid (HX1.out.later hb2)
  have HB2 := Lib.hid (HB1.out.trans (hb2.mono HB1.out.size))
  clear hb2 HP1 HX1 HB1
  generalize hx : tkAt l s.read = x at *
  have HXE := Lib.hid hx
  clear hx
  have hk9 := Lib.hid (Blk.new w2 (tkC x) 76)
  have hb9 := Lib.hid ((Below.refl w2.heap.size w2).alloc (Nat.le_refl _) (.cells (tkC x) 76))
  unfold tkC at *
  go_upto_region 2 with (fail)
  generalize w2.alloc (.cells #[.int .i64 x.kind, .int .i64 x.at_, .int .u64 (wd x.cls 0), .int .u64 (wd x.cls 1), .int .u64 (wd x.cls 2), .int .u64 (wd x.cls 3), .string (bs x.text), .int .i64 x.lo, .int .i64 x.hi] 76) = w3 at *
  have HP3 := Lib.hid (HP2.out.later hb9.out)
  have HX3 := Lib.hid (HX2.out.later hb9.out)
  have HB3 := Lib.hid (HB2.out.trans (hb9.out.mono HB2.out.size))

  clear HP2 HX2 HB2 hb9
  generalize w2.heap.size = tb at *

  obtain ⟨t0, -, -, -, -, -, -, -, -⟩ := nine_cells hk9.out
  clear hk9
  have hn : (x.kind != k) = true := by rw [bne_iff_ne]; exact hk
  go_wp2_with fail
  refine (HP3.out.fault HF.out).mono ?_; rintro e2 w4 ⟨rfl, hb4⟩
  have HB4 := Lib.hid (HB3.out.trans (hb4.mono HB3.out.size))
  clear hb4
  go_wp2
  exact ⟨rfl, rfl, HB4.out⟩
set_option maxHeartbeats 4000000 in
set_option maxRecDepth 100000 in
theorem want_ok (hP : Pst0 w B pb A cp l s ov nv av) {k : Int} (hk : (tkAt l s.read).kind = k) (hr : s.read < 16777216) :
    Calls Tryz.prog 118 #[.pointer (some ⟨pb, 0, none⟩), .int .i64 k] w (fun e' w' => e' = .returned (.agg (tkC (tkAt l s.read))) ∧ Pst0 w' B pb A cp l s.next ov nv av ∧ Fr B w w') := by
  have HKK := Lib.hid hk
  clear hk
  have HP1 : Hid (Pst0 (w.alloc (.cells z9 76)) B pb A cp l s ov nv av) := hP.later ((Below.refl _ _).alloc (Nat.le_refl _) _)
  have HB1 := Lib.hid ((Below.refl w.heap.size w).alloc (Nat.le_refl _) (.cells z9 76))
  have HX1 := Lib.hid (Blk.new w z9 76)
  have hlt0 := hP.blk.lt
  have hBw : B ≤ w.heap.size := Nat.le_of_lt (Nat.lt_of_le_of_lt hP.base hlt0)
  clear hP
  unfold z9 at HP1 HB1 HX1
  go_enter Tryz.func118, Tryz.ntmps118
  go_upto_region 1 with (fail)
  generalize w.alloc (.cells #[.int .i64 0, .int .i64 0, .int .u64 0, .int .u64 0, .int .u64 0, .int .u64 0, .string ⟨#[]⟩, .int .i64 0, .int .i64 0] 76) = w1 at *
  go_wp2_with fail
  refine (HP1.out.token).mono ?_; rintro e1 w2 ⟨rfl, hb2⟩
  have HP2 := Lib.hid (HP1.out.later hb2)
  have HX2 := Lib.hid (HX1.out.later hb2)
  have HB2 := Lib.hid (HB1.out.trans (hb2.mono HB1.out.size))
  clear hb2 HP1 HX1 HB1
  generalize hx : tkAt l s.read = x at *
  have HXE := Lib.hid hx
  clear hx
  have hk9 := Lib.hid (Blk.new w2 (tkC x) 76)
  have hb9 := Lib.hid ((Below.refl w2.heap.size w2).alloc (Nat.le_refl _) (.cells (tkC x) 76))
  unfold tkC at *
  go_upto_region 2 with (fail)
  generalize w2.alloc (.cells #[.int .i64 x.kind, .int .i64 x.at_, .int .u64 (wd x.cls 0), .int .u64 (wd x.cls 1), .int .u64 (wd x.cls 2), .int .u64 (wd x.cls 3), .string (bs x.text), .int .i64 x.lo, .int .i64 x.hi] 76) = w3 at *
  have HP3 := Lib.hid (HP2.out.later hb9.out)
  have HX3 := Lib.hid (HX2.out.later hb9.out)
  have HB3 := Lib.hid (HB2.out.trans (hb9.out.mono HB2.out.size))

  clear HP2 HX2 HB2 hb9
  generalize w2.heap.size = tb at *
  have hn : (x.kind != k) = false := by rw [HKK.out]; simp
  obtain ⟨t0, -, -, -, -, -, -, -, -⟩ := nine_cells hk9.out
  have c1 := HP3.out.blk.cell 1
  simp at c1
  have fz := HP3.out.blk.frozen
  have hrz : (s.read : Int) < 16777216 := by omega
  have hw : wrap64 ((s.read : Int) + 1) = (s.read : Int) + 1 := by unfold wrap64; omega
  have HP4 := Lib.hid (HP3.out.next hr)
  have HB4 := Lib.hid ((Fr.of HB3.out hBw).setP0 HP3.out 1 (.int .i64 ((s.read : Int) + 1)))
  have HX4 := Lib.hid (HX3.out.setCell_ne (a := ⟨pb, 1, none⟩) (Blk.typed2 HP3.out.blk HX3.out (by decide)) (.int .i64 ((s.read : Int) + 1)))
  have HK4 := Lib.hid (hk9.out.setCell_ne (a := ⟨pb, 1, none⟩) (Blk.typed2 HP3.out.blk hk9.out (by decide)) (.int .i64 ((s.read : Int) + 1)))
  clear HP3 HX3 HB3 
  go_upto_region 5 with (fail)
  generalize w3.setCell ⟨pb, 1, none⟩ (.int .i64 ((s.read : Int) + 1)) = w4 at *
  clear t0 c1 fz hw hk9
  obtain ⟨t0, t1, t2, t3, t4, t5, t6, t7, t8⟩ := nine_cells HK4.out
  obtain ⟨m0, m1, m2, m3, m4, m5, m6, m7, m8⟩ := nine_cells HX4.out
  obtain ⟨n0, n1, n2, n3, n4, n5, n6, n7, n8⟩ := nine HX4.out
  have nf := HX4.out.frozen
  have HPE := Lib.hid (HP4.out.box9 HX4.out hBw (.int .i64 x.kind) (.int .i64 x.at_) (.int .u64 (wd x.cls 0)) (.int .u64 (wd x.cls 1)) (.int .u64 (wd x.cls 2)) (.int .u64 (wd x.cls 3)) (.string (bs x.text)) (.int .i64 x.lo) (.int .i64 x.hi))
  have HBE := Lib.hid (fr9 HB4.out HX4.out hBw (.int .i64 x.kind) (.int .i64 x.at_) (.int .u64 (wd x.cls 0)) (.int .u64 (wd x.cls 1)) (.int .u64 (wd x.cls 2)) (.int .u64 (wd x.cls 3)) (.string (bs x.text)) (.int .i64 x.lo) (.int .i64 x.hi))
  have hbk := Lib.hid (nine_cells (nine_blk HX4.out (.int .i64 x.kind) (.int .i64 x.at_) (.int .u64 (wd x.cls 0)) (.int .u64 (wd x.cls 1)) (.int .u64 (wd x.cls 2)) (.int .u64 (wd x.cls 3)) (.string (bs x.text)) (.int .i64 x.lo) (.int .i64 x.hi)))
  clear HP4 HX4 HB4 HK4
  go_wp2
  obtain ⟨r0, r1, r2, r3, r4, r5, r6, r7, r8⟩ := hbk.out
  exact bodyPost_ret (v := .agg #[.int .i64 x.kind, .int .i64 x.at_, .int .u64 (wd x.cls 0), .int .u64 (wd x.cls 1), .int .u64 (wd x.cls 2), .int .u64 (wd x.cls 3), .string (bs x.text), .int .i64 x.lo, .int .i64 x.hi]) (by simp [results, Tryz.results118, go_sem, r0, r1, r2, r3, r4, r5, r6, r7, r8]) rfl ⟨by rw [HXE.out]; rfl, HPE.out, HBE.out⟩
end
end Go.Proofs.YtcgjmnhmhiddkaaGreatDoor
