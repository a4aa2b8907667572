/- A byte read by a ready state: walked. -/
import Derived.Test.YtidoofdofdhjpaaM28
import Derived.Test.YtidoofdofdhjpaaM14
namespace Go.Proofs.Ytidoofdofdhjpaa
open Go Go.RowKit
set_option linter.unusedVariables false
set_option linter.unusedSimpArgs false
set_option maxRecDepth 100000
set_option maxHeartbeats 16000000
def NrdP (o : Option (List Itm)) (w : World) (e : Ending) (w' : World) : Prop := ∃ v, e = .returned (.tuple #[v, .bool o.isSome]) /\ Below w.heap.size w w' /\ (∀ q, o = some q -> OwnIt w' w.heap.size v q) /\ (o = none -> v = .slice none 0 0)
structure NrS (w0 : World) (A : Option Addr) (l : List Nd) (c : Nat) (B : Option Addr) (s : List Itm) (m : Nat) (w : World) : Prop where
 bel : Below w0.heap.size w0 w
 row : NRow w A l
 box : Blk w w0.heap.size #[.slice A l.length c] 24
 ss : ItRow w B s
 map : IsMapK w m rdL
theorem NrS.later {w0 w w' : World} {A : Option Addr} {l : List Nd} {c : Nat} {B : Option Addr} {s : List Itm} {m : Nat} (h : NrS w0 A l c B s m w) (hb : Below w.heap.size w w') : NrS w0 A l c B s m w' :=
 ⟨h.bel.trans (hb.mono h.bel.size), h.row.later hb, h.box.later hb, h.ss.later hb, h.map.later hb⟩
def FroV (o : Option (List Itm)) (v : Value) (w : World) : Prop := ∀ f, o = some f -> FrV f v w
theorem FroV.later (o : Option (List Itm)) (v : Value) (w w' : World) (h : FroV o v w) (hb : Below w.heap.size w w') : FroV o v w' := fun f hf => FrV.later f v w w' (h f hf) hb
def NtV (o : Option (List Itm)) (v : Value) (w : World) : Prop := ∃ u, v = .tuple #[u, .bool o.isSome] /\ FroV o u w
theorem NtV.later (o : Option (List Itm)) (v : Value) (w w' : World) (h : NtV o v w) (hb : Below w.heap.size w w') : NtV o v w' := by
 obtain ⟨u, h1, h2⟩ := h
 exact ⟨u, h1, h2.later _ _ _ _ hb⟩
def NbV (b : Bool) (v : Value) (w : World) : Prop := v = .bool b
theorem NbV.later (b : Bool) (v : Value) (w w' : World) (h : NbV b v w) (hb : Below w.heap.size w w') : NbV b v w' := h
theorem rd_both {l : List Nd} {x : Itm} {r : List Itm} {c : UInt8} {f q : List Itm} (hf : frS l x c = some f) (hq : lowS r = some q) : rdS l (x :: r) c = some (f ++ q) := by
 show (lowS r).bind (fun q => (frS l x c).map fun f => f ++ q) = _
 rw [hq, hf]; rfl
theorem rd_front {l : List Nd} {x : Itm} {r : List Itm} {c : UInt8} (hf : frS l x c = none) : rdS l (x :: r) c = none := by
 show (lowS r).bind (fun q => (frS l x c).map fun f => f ++ q) = _
 rw [hf]; cases lowS r <;> rfl
theorem fr_two {l : List Nd} {x : Itm} {c : UInt8} {f : List Itm} (h : frS l x c = some f) : f.length <= 2 := by
 unfold frS at h
 simp only at h
 repeat' split at h
 all_goals first
  | (cases h; done)
  | (injection h with h; subst h; simp)
theorem fr_shape {f : List Itm} {v : Value} {w : World} (h : FrV f v w) : ∃ A c, v = .slice A f.length c /\ ∀ b, A = some ⟨b, 0, none⟩ -> b < w.heap.size := by
 rcases h with ⟨rfl, rfl⟩ | ⟨b, rfl, hb⟩
 ·exact ⟨none, 0, rfl, fun b e => by cases e⟩
 ·exact ⟨_, _, rfl, fun b' e => by cases e; exact hb.lt⟩
theorem low_len {r q : List Itm} (h : lowS r = some q) : q.length = r.length := by
 unfold lowS at h
 split at h
 ·cases h; exact List.length_map _
 ·cases h
theorem rd_low {l : List Nd} {x : Itm} {r : List Itm} {c : UInt8} (hq : lowS r = none) : rdS l (x :: r) c = none := by
 show (lowS r).bind (fun q => (frS l x c).map fun f => f ++ q) = _
 rw [hq]; rfl
theorem nxread_any (l : List Nd) (A : Option Addr) (c : Nat) (s : List Itm) (B : Option Addr) (c2 : Nat) (u : UInt8) (m : Nat) (h0 : 0 < l.length) (hlen : l.length <= 1073741824) (htx : Txt l) (hs : ∀ y ∈ s, HdF l y) (hrd : rdyS l s = true) (hsl : s.length <= 1000) (hc2 : s.length <= c2) (hI : ItOk s) (w : World) (hrow : NRow w A l) (hss : ItRow w B s) (hm : IsMapK w m rdL) :
 Calls Try.prog 34 #[.map (some m), .agg #[.slice A l.length c], .slice B s.length c2, .int .u8 (u.toNat : Int)] w (NrdP (rdS l s u) w) := by
 have hb1 := (Below.refl w.heap.size w).alloc (Nat.le_refl _) (.cells #[.slice A l.length c] 24)
 have HS : Hid (NrS w A l c B s m (w.alloc (.cells #[.slice A l.length c] 24))) := ⟨hb1, hrow.later hb1, Blk.new _ _ _, hss.later hb1, hm.later hb1⟩
 clear hb1 hrow hss hm
 cases s with
 | nil =>
  have HP : Hid (NrdP (rdS l [] u) w (.returned (.tuple #[.slice none 0 0, .bool false])) (w.alloc (.cells #[.slice A l.length c] 24))) := ⟨_, rfl, HS.out.bel, (fun q hq => by cases hq), fun _ => rfl⟩
  clear HS
  simp only [List.length_nil]
  go_enter Try.func34, Try.ntmps34
  go_wp2
  go_ret2
  exact HP.out
 | cons x r =>
  have hx : HdF l x := hs x (List.mem_cons_self ..)
  obtain ⟨i, hil, hin⟩ := hx.inl h0
  obtain ⟨fK, hlk, hen, hcall⟩ := rd_at h0 hx (by simpa [rdyS] using hrd) htx u
  have hIr : ItOk r := fun y hy => hI y (List.mem_cons_of_mem _ hy)
  obtain ⟨kk, nn, lo, hi⟩ := x
  simp only at hin
  subst hin
  simp only [Int.toNat_natCast] at hcall hlk
  have HN := Lib.hid (fun (w' : World) (h : NRow w' A l) => nxNode_any l A c ⟨kk, (i : Int), lo, hi⟩ i hil rfl hlen w' h)
  have HHK := Lib.hid hlk
  have HEN := Lib.hid hen
  have HCA := Lib.hid hcall
  have HFR := Lib.hid (fun (f q : List Itm) (h1 : frS l ⟨kk, (i : Int), lo, hi⟩ u = some f) (h2 : lowS r = some q) => rd_both h1 h2)
  have HFN := Lib.hid (fun (h1 : frS l ⟨kk, (i : Int), lo, hi⟩ u = none) => rd_front (r := r) h1)
  have HLN := Lib.hid (fun (h1 : lowS r = none) => rd_low (l := l) (x := ⟨kk, (i : Int), lo, hi⟩) (c := u) h1)
  have HFL := Lib.hid (fun (f : List Itm) (h : frS l ⟨kk, (i : Int), lo, hi⟩ u = some f) => fr_two h)
  obtain ⟨o, ho⟩ : ∃ o, frS l ⟨kk, (i : Int), lo, hi⟩ u = o := ⟨_, rfl⟩
  rw [ho] at HCA HFR HFN HFL
  obtain ⟨bb, ob, rfl, -, -⟩ := HS.out.ss 0 (by simp)
  have HLR := Lib.hid (fun (w' : World) (A' : Option Addr) (k : Nat) (h : ItRow w' A' r) => ilower_any r A' k (by simp at hsl; omega) hIr w' h)
  have HAT : Hid (∀ w', ItRow w' (some ⟨bb, ob, none⟩) (⟨kk, (i : Int), lo, hi⟩ :: r) -> At4 w' bb ob ⟨kk, (i : Int), lo, hi⟩) := fun w' h => by have := h.at (i := 0) (by simp) rfl; simpa using this
  unfold At4 at HAT
  simp only at HAT
  obtain ⟨n, hn⟩ : ∃ n, ((⟨kk, (i : Int), lo, hi⟩ : Itm) :: r).length = n := ⟨_, rfl⟩
  have HNL : Hid (n = r.length + 1) := by unfold Hid; rw [<- hn]; simp
  rw [hn] at hsl hc2 ⊢
  have hn1 : 1 <= n := by have := HNL.out; omega
  have hn0 : 0 < n := hn1
  have hnz : (1 : Int) <= (n : Int) := by omega
  have hnb : ((n : Int) == 0) = false := by rw [beq_eq_false_iff_ne]; omega
  clear hlk hen hcall ho hs hrd hx hI hIr hn
  obtain ⟨o9, ho9⟩ : ∃ o9, rdS l (⟨kk, (i : Int), lo, hi⟩ :: r) u = o9 := ⟨_, rfl⟩
  rw [ho9] at HFR HFN HLN ⊢
  clear ho9
  go_enter Try.func34, Try.ntmps34
  go_upto_region 3 with (fail)
  generalize w.alloc (.cells #[.slice A l.length c] 24) = w1 at *
  obtain ⟨x0, x1, x2, x3⟩ := HAT.out w1 HS.out.ss
  have hlk := HHK.out m w1 HS.out.map
  go_upto_region 6 with (fail)
  clear hlk x0 x1 x2 x3
  unfold itV ndC at HN
  unfold rdC at HCA
  simp only at HN HCA
  generalize atN l i = n0 at *
  obtain ⟨nk, na, nb, nlo, nhi, ncls, ntext⟩ := n0
  simp only at HN HCA
  generalize bs ntext = T at *
  generalize (wd ncls 0 : Int) = a0 at *
  generalize (wd ncls 1 : Int) = a1 at *
  generalize (wd ncls 2 : Int) = a2 at *
  generalize (wd ncls 3 : Int) = a3 at *
  refine wp_region_stable (S := (NrS w A l c (some ⟨bb, ob, none⟩) (⟨kk, (i : Int), lo, hi⟩ :: r) m)) (hSt := fun _ _ h hb => h.later hb) (plan := [[(10, none)], [(2, none)], [(30, some 1)], [(31, some 2)], [(5, none)], [(2, none)], [(34, some 5)], [(35, some 6)], [(33, some 4), (36, some 7)], [(3, none)], [(32, some 3), (37, some 8), (38, some 9)], [(29, some 0), (39, some 10)], [(40, some 11)], [(28, some 12)], [(28, some 12)], [(41, some 13)], [(42, some 14)]]) (by kernel_rfl) (by kernel_rfl) (by kernel_rfl) ?hS ?_
  rotate_left
  iterate 11 first
   | (refine chain_skip (by rfl) (by rfl) ?_)
   | (apply chain_want (by rfl)
      ·intro act wx hS hr
       simp at hr
       have e0 := hS.box.cell 0
       simp at e0
       obtain ⟨x0, x1, x2, x3⟩ := HAT.out _ hS.ss
       have hen := HEN.out
       go_simp
       (try go_ints)
       first
        | ((with_reducible refine (HN.out _ hS.row).mono ?_); rintro e w' ⟨rfl, hb⟩; exact Done.mk hb)
        | exact Done.same
     )
  (refine chain_rel (NtV o) (NtV.later o) (by rfl) ?_ ?_
   ·intro act wx hS hr
    simp at hr
    have e0 := hS.box.cell 0
    simp at e0
    obtain ⟨x0, x1, x2, x3⟩ := HAT.out _ hS.ss
    have hen := HEN.out
    all_goals go_simp
    ((refine (HCA.out _).mono ?_); rintro e w' ⟨v9, rfl, hv, hb⟩; exact Done.rel (p := NtV o) hb ⟨_, rfl, hv⟩)
  )
  (refine chain_rel (NtV o) (NtV.later o) (by rfl) ?_ ?_
   ·intro act wx hS hr
    simp at hr
    have e0 := hS.box.cell 0
    simp at e0
    obtain ⟨x0, x1, x2, x3⟩ := HAT.out _ hS.ss
    have hen := HEN.out
    obtain ⟨v5, hr, u5, rfl, hu5⟩ := hr
    all_goals go_simp
    exact Done.rel (p := NtV o) (Below.refl _ _) ⟨_, rfl, hu5⟩
  )
  (refine chain_rel (FroV o) (FroV.later o) (by rfl) ?_ ?_
   ·intro act wx hS hr
    simp at hr
    have e0 := hS.box.cell 0
    simp at e0
    obtain ⟨x0, x1, x2, x3⟩ := HAT.out _ hS.ss
    have hen := HEN.out
    obtain ⟨v5, hr, u5, rfl, hu5⟩ := hr
    all_goals go_simp
    exact Done.rel (p := FroV o) (Below.refl _ _) hu5
  )
  (refine chain_rel (NbV o.isSome) (NbV.later o.isSome) (by rfl) ?_ ?_
   ·intro act wx hS hr
    simp at hr
    have e0 := hS.box.cell 0
    simp at e0
    obtain ⟨x0, x1, x2, x3⟩ := HAT.out _ hS.ss
    have hen := HEN.out
    obtain ⟨v5, hr, u5, rfl, hu5⟩ := hr
    all_goals go_simp
    exact Done.rel (p := NbV o.isSome) (Below.refl _ _) rfl
  )
  (refine chain_rel (FroV o) (FroV.later o) (by rfl) ?_ ?_
   ·intro act wx hS hr
    simp at hr
    have e0 := hS.box.cell 0
    simp at e0
    obtain ⟨x0, x1, x2, x3⟩ := HAT.out _ hS.ss
    have hen := HEN.out
    obtain ⟨v5, hr, hu5⟩ := hr
    all_goals go_simp
    exact Done.rel (p := FroV o) (Below.refl _ _) hu5
  )
  (refine chain_rel (NbV o.isSome) (NbV.later o.isSome) (by rfl) ?_ ?_
   ·intro act wx hS hr
    simp at hr
    have e0 := hS.box.cell 0
    simp at e0
    obtain ⟨x0, x1, x2, x3⟩ := HAT.out _ hS.ss
    have hen := HEN.out
    obtain ⟨v5, hr, rfl⟩ := hr
    all_goals go_simp
    exact Done.rel (p := NbV o.isSome) (Below.refl _ _) rfl
  )
  show ∀ w', _ -> _
  intro wz hz
  simp [Act.put]
  case hS => exact HS.out
  intro v11 hv11 v12 hv12 v13 hv13 v14 hv14 v15 hv15 v16 hv16
  obtain rfl : v16 = .bool o.isSome := hv16
  have HF15 : Hid (FroV o v15 wz) := hv15
  have HZ := Lib.hid hz
  clear hv11 hv12 hv13 hv14 hv15 hz HN HCA HAT HS HEN HHK
  cases o with
  | none =>
   have HO9 : Hid (o9 = none) := HFN.out rfl
   simp only [Option.isSome_none]
   go_wp2
   go_ret2
   exact ⟨_, by rw [HO9.out]; rfl, HZ.out.bel, (fun q hq => by rw [HO9.out] at hq; cases hq), fun _ => rfl⟩
  | some f =>
   have HFV : Hid (FrV f v15 wz) := HF15.out f rfl
   have HF2 : Hid (f.length <= 2) := HFL.out f rfl
   simp only [Option.isSome_some]
   clear HF15 HFL HFN
   by_cases hc1 : c2 = 1
   ·have hn1 : n = 1 := by omega
    have HR1 : Hid (r = []) := by have := HNL.out; exact List.length_eq_zero_iff.1 (by omega)
    have hr0 : r.length = 0 := by rw [HR1.out]; rfl
    have HL0 := Lib.hid (HLR.out wz (some ⟨bb, ob, none⟩) 0 (by rw [HR1.out]; exact ItRow.nil _ _))
    rw [hr0] at HL0
    subst hc1
    subst hn1
    clear hr0
    go_wp2_with fail
    refine HL0.out.mono ?_; intro e w5 hlw
    clear HL0 HLR
    rcases hlw with ⟨hb, ⟨hl, rfl⟩ | ⟨v, q, hl, rfl, ho⟩⟩
    ·have HO9 : Hid (o9 = none) := HLN.out hl
     have HB5 := Lib.hid (HZ.out.bel.trans (hb.mono HZ.out.bel.size))
     clear hl hb
     go_wp2
     go_ret2
     exact ⟨_, by rw [HO9.out]; rfl, HB5.out, (fun q hq => by rw [HO9.out] at hq; cases hq), fun _ => rfl⟩
    ·have HO9 : Hid (o9 = some (f ++ q)) := HFR.out f q rfl hl
     have HB5 := Lib.hid (HZ.out.bel.trans (hb.mono HZ.out.bel.size))
     obtain ⟨Af, cf, hfs, hfb⟩ := fr_shape HFV.out
     have hne : ∀ b, Af = some ⟨b, 0, none⟩ -> v.ownBlock ≠ some b := fun b e1 e2 => by
      have h1 := hfb b e1
      have h2 := (ho.lt b e2).1
      omega
     have HVB : Hid (∀ k, v.ownBlock = some k -> w.heap.size <= k) := fun k hk => Nat.le_trans HZ.out.bel.size (ho.lt k hk).1
     have HINS := Lib.hid (nxIns_any f q v Af cf w.heap.size w5 (ho.lower HZ.out.bel.size) HB5.out.size (hfs ▸ HFV.out.later _ _ _ _ hb) hne HF2.out (by have := low_len hl; have := HNL.out; omega))
     subst hfs
     clear hl hb hfb hne ho HFV
     go_wp2_with fail
     refine HINS.out.mono ?_; rintro e w6 ⟨u6, rfl, ho6, hg6⟩
     have HO6 := Lib.hid ho6
     have HB6 := Lib.hid (HB5.out.grown hg6 HB5.out.size HVB.out)
     clear ho6 hg6 HINS
     go_wp2
     go_ret2
     exact ⟨_, by rw [HO9.out]; rfl, HB6.out, (fun q hq => by rw [HO9.out] at hq; cases hq; exact HO6.out), (fun h => by rw [HO9.out] at h; cases h)⟩
   ·have hc1z : ¬ (c2 : Int) = 1 := by omega
    have hnr : n - 1 = r.length := by have := HNL.out; omega
    have HL0 := Lib.hid (HLR.out wz (some ⟨bb, ob + 4, none⟩) (c2 - 1) HZ.out.ss.tl)
    rw [<- hnr] at HL0
    clear hnr
    go_wp2_with fail
    refine HL0.out.mono ?_; intro e w5 hlw
    clear HL0 HLR
    rcases hlw with ⟨hb, ⟨hl, rfl⟩ | ⟨v, q, hl, rfl, ho⟩⟩
    ·have HO9 : Hid (o9 = none) := HLN.out hl
     have HB5 := Lib.hid (HZ.out.bel.trans (hb.mono HZ.out.bel.size))
     clear hl hb
     go_wp2
     go_ret2
     exact ⟨_, by rw [HO9.out]; rfl, HB5.out, (fun q hq => by rw [HO9.out] at hq; cases hq), fun _ => rfl⟩
    ·have HO9 : Hid (o9 = some (f ++ q)) := HFR.out f q rfl hl
     have HB5 := Lib.hid (HZ.out.bel.trans (hb.mono HZ.out.bel.size))
     obtain ⟨Af, cf, hfs, hfb⟩ := fr_shape HFV.out
     have hne : ∀ b, Af = some ⟨b, 0, none⟩ -> v.ownBlock ≠ some b := fun b e1 e2 => by
      have h1 := hfb b e1
      have h2 := (ho.lt b e2).1
      omega
     have HVB : Hid (∀ k, v.ownBlock = some k -> w.heap.size <= k) := fun k hk => Nat.le_trans HZ.out.bel.size (ho.lt k hk).1
     have HINS := Lib.hid (nxIns_any f q v Af cf w.heap.size w5 (ho.lower HZ.out.bel.size) HB5.out.size (hfs ▸ HFV.out.later _ _ _ _ hb) hne HF2.out (by have := low_len hl; have := HNL.out; omega))
     subst hfs
     clear hl hb hfb hne ho HFV
     go_wp2_with fail
     refine HINS.out.mono ?_; rintro e w6 ⟨u6, rfl, ho6, hg6⟩
     have HO6 := Lib.hid ho6
     have HB6 := Lib.hid (HB5.out.grown hg6 HB5.out.size HVB.out)
     clear ho6 hg6 HINS
     go_wp2
     go_ret2
     exact ⟨_, by rw [HO9.out]; rfl, HB6.out, (fun q hq => by rw [HO9.out] at hq; cases hq; exact HO6.out), (fun h => by rw [HO9.out] at h; cases h)⟩
structure NxqS (w0 : World) (A : Option Addr) (l : List Nd) (c : Nat) (B : Option Addr) (s : List Itm) (w : World) : Prop where
 bel : Below w0.heap.size w0 w
 row : NRow w A l
 box : Blk w w0.heap.size #[.slice A l.length c] 24
 ss : ItRow w B s
theorem NxqS.later {w0 w w' : World} {A : Option Addr} {l : List Nd} {c : Nat} {B : Option Addr} {s : List Itm} (h : NxqS w0 A l c B s w) (hb : Below w.heap.size w w') : NxqS w0 A l c B s w' :=
 ⟨h.bel.trans (hb.mono h.bel.size), h.row.later hb, h.box.later hb, h.ss.later hb⟩
def MapV (v : Value) (w : World) : Prop := ∃ m, v = .map (some m) /\ IsMapK w m rdL
theorem MapV.later (v : Value) (w w' : World) (h : MapV v w) (hb : Below w.heap.size w w') : MapV v w' := by
 obtain ⟨m, h1, h2⟩ := h
 exact ⟨m, h1, h2.later hb⟩
def OwO (o : Option (List Itm)) (b : Nat) (u : Value) (w : World) : Prop := (∀ q, o = some q -> OwnIt w b u q) /\ (o = none -> u = .slice none 0 0)
theorem OwO.later (o : Option (List Itm)) (b : Nat) (v : Value) (w w' : World) (h : OwO o b v w) (hb : Below w.heap.size w w') : OwO o b v w' := ⟨fun q hq => (h.1 q hq).later hb, h.2⟩
def TupO (o : Option (List Itm)) (b : Nat) (v : Value) (w : World) : Prop := ∃ u, v = .tuple #[u, .bool o.isSome] /\ OwO o b u w
theorem TupO.later (o : Option (List Itm)) (b : Nat) (v : Value) (w w' : World) (h : TupO o b v w) (hb : Below w.heap.size w w') : TupO o b v w' := by
 obtain ⟨u, h1, h2⟩ := h
 exact ⟨u, h1, h2.later _ _ _ _ _ hb⟩
theorem nxRead_any (l : List Nd) (A : Option Addr) (c : Nat) (s : List Itm) (B : Option Addr) (c2 : Nat) (u : UInt8) (h0 : 0 < l.length) (hlen : l.length <= 1073741824) (htx : Txt l) (hs : ∀ y ∈ s, HdF l y) (hrd : rdyS l s = true) (hsl : s.length <= 1000) (hc2 : s.length <= c2) (hI : ItOk s) (w : World) (hrow : NRow w A l) (hss : ItRow w B s) :
 Calls Try.prog 18 #[.agg #[.slice A l.length c], .slice B s.length c2, .int .u8 (u.toNat : Int)] w (NrdP (rdS l s u) w) := by
 have hb1 := (Below.refl w.heap.size w).alloc (Nat.le_refl _) (.cells #[.slice A l.length c] 24)
 have HS : Hid (NxqS w A l c B s (w.alloc (.cells #[.slice A l.length c] 24))) := ⟨hb1, hrow.later hb1, Blk.new _ _ _, hss.later hb1⟩
 have HC : Hid (∀ m w', NRow w' A l -> ItRow w' B s -> IsMapK w' m rdL -> Calls Try.prog 34 #[.map (some m), .agg #[.slice A l.length c], .slice B s.length c2, .int .u8 (u.toNat : Int)] w' (NrdP (rdS l s u) w')) := fun m w' h1 h2 h3 => nxread_any l A c s B c2 u m h0 hlen htx hs hrd hsl hc2 hI w' h1 h2 h3
 clear hb1 hrow hss hs hrd hI htx
 generalize rdS l s u = o at *
 go_enter Try.func18, Try.ntmps18
 go_upto_region 1 with (fail)
 generalize w.alloc (.cells #[.slice A l.length c] 24) = w1 at *
 generalize s.length = n at *
 refine wp_region_stable (S := (NxqS w A l c B s)) (hSt := fun _ _ h hb => h.later hb) (plan := [[], [(3, none)], [(1, none)], [(2, none)], [(8, some 0), (9, some 1), (10, some 2), (11, some 3)], [(12, some 4)], [(12, some 4)], [(13, some 5)], [(14, some 6)]]) (by kernel_rfl) (by kernel_rfl) (by kernel_rfl) ?hS ?_
 rotate_left
 (refine chain_rel (MapV) (MapV.later) (by rfl) ?_ ?_
  ·intro act wx hS hr
   simp at hr
   have e0 := hS.box.cell 0
   simp at e0
   all_goals go_simp
   ((refine (nxTable_any _).mono ?_); rintro e w' ⟨m, rfl, hm, hb⟩; exact Done.rel (p := MapV) hb ⟨_, rfl, hm⟩)
 )
 iterate 3 first
  | (refine chain_skip (by rfl) (by rfl) ?_)
  | (apply chain_want (by rfl)
     ·intro act wx hS hr
      simp at hr
      have e0 := hS.box.cell 0
      simp at e0
      go_simp
      (try go_ints)
      first
       | exact Done.same
    )
 (refine chain_rel (TupO o w.heap.size) (TupO.later o w.heap.size) (by rfl) ?_ ?_
  ·intro act wx hS hr
   simp at hr
   have e0 := hS.box.cell 0
   simp at e0
   obtain ⟨⟨v8, hr8, m, rfl, hm⟩, hr9, hr10, hr11⟩ := hr
   all_goals go_simp
   ((refine (HC.out _ _ hS.row hS.ss hm).mono ?_); rintro e w' ⟨v9, rfl, hb, hv1, hv2⟩; exact Done.rel (p := TupO o w.heap.size) hb ⟨_, rfl, (fun q hq => (hv1 q hq).lower hS.bel.size), hv2⟩)
 )
 (refine chain_rel (OwO o w.heap.size) (OwO.later o w.heap.size) (by rfl) ?_ ?_
  ·intro act wx hS hr
   simp at hr
   have e0 := hS.box.cell 0
   simp at e0
   obtain ⟨v5, hr, u5, rfl, hu5⟩ := hr
   all_goals go_simp
   exact Done.rel (p := OwO o w.heap.size) (Below.refl _ _) hu5
 )
 (refine chain_rel (NbV o.isSome) (NbV.later o.isSome) (by rfl) ?_ ?_
  ·intro act wx hS hr
   simp at hr
   have e0 := hS.box.cell 0
   simp at e0
   obtain ⟨v5, hr, u5, rfl, hu5⟩ := hr
   all_goals go_simp
   exact Done.rel (p := NbV o.isSome) (Below.refl _ _) rfl
 )
 (refine chain_rel (OwO o w.heap.size) (OwO.later o w.heap.size) (by rfl) ?_ ?_
  ·intro act wx hS hr
   simp at hr
   have e0 := hS.box.cell 0
   simp at e0
   obtain ⟨v5, hr, hu5⟩ := hr
   all_goals go_simp
   exact Done.rel (p := OwO o w.heap.size) (Below.refl _ _) hu5
 )
 (refine chain_rel (NbV o.isSome) (NbV.later o.isSome) (by rfl) ?_ ?_
  ·intro act wx hS hr
   simp at hr
   have e0 := hS.box.cell 0
   simp at e0
   obtain ⟨v5, hr, rfl⟩ := hr
   all_goals go_simp
   exact Done.rel (p := NbV o.isSome) (Below.refl _ _) rfl
 )
 show ∀ w', _ -> _
 intro wz hz
 simp [Act.put]
 case hS => exact HS.out
 intro v0 hv0 v4 hv4 v5 hv5 v6 hv6 v7 hv7 v8 hv8
 obtain rfl : v8 = .bool o.isSome := hv8
 have HF : Hid (OwO o w.heap.size v7 wz) := hv7
 have HZ := Lib.hid hz
 clear hv0 hv4 hv5 hv6 hv7 hz
 go_wp2
 go_ret2
 exact ⟨_, rfl, HZ.out.bel, HF.out.1, HF.out.2⟩
end Go.Proofs.Ytidoofdofdhjpaa
namespace Go.Proofs.Ytidoofdofdhjpaa
open Go
set_option linter.unusedVariables false
set_option linter.unusedSimpArgs false
theorem low_app {a b q : List Itm} (h : lowS (a ++ b) = some q) : ∃ p1 p2, lowS a = some p1 /\ lowS b = some p2 /\ q = p1 ++ p2 := by
 unfold lowS at h ⊢
 rw [List.all_append] at h
 by_cases e : (a.all maylow && b.all maylow) = true
 ·rw [if_pos e] at h
  rw [Bool.and_eq_true] at e
  cases h
  exact ⟨a.map lowI, b.map lowI, by rw [if_pos e.1], by rw [if_pos e.2], by rw [List.map_append]⟩
 ·rw [if_neg e] at h; cases h
theorem on_app {l : List Nd} (hR : Rgt l) {a : List Itm} {z : Itm} {c : UInt8} {q : List Itm} (ha : ∀ y ∈ a, HdF l y) (hz : HdF l z) (h : q ∈ onL l (a ++ [z]) c) :
 (∃ a' z', q = a' ++ z' /\ a' ∈ onL l a c /\ lowS [z] = some z') \/ ([] ∈ rchS l a /\ q ∈ onL l [z] c) := by
 unfold onL at h
 obtain ⟨t, ht, hq⟩ := List.mem_filterMap.1 h
 rw [rch_app hR (A := [z]) (fun y hy => by rw [List.mem_singleton.1 hy]; exact hz) _ a (Nat.le_refl _) ha] at ht
 obtain ⟨t0, h0, h1⟩ := List.mem_flatMap.1 ht
 unfold appR at h1
 by_cases e : t0 = []
 ·rw [if_pos e] at h1
  right
  exact ⟨by rw [<- e]; exact h0, List.mem_filterMap.2 ⟨t, h1, hq⟩⟩
 ·rw [if_neg e] at h1
  left
  rw [List.mem_singleton.1 h1] at hq
  cases t0 with
  | nil => exact absurd rfl e
  | cons x r =>
   rw [List.cons_append] at hq
   unfold rdS at hq
   simp only at hq
   cases hl : lowS (r ++ [z]) with
   | none => rw [hl] at hq; cases hq
   | some p =>
    rw [hl] at hq
    simp only [Option.bind_some] at hq
    obtain ⟨p1, p2, e1, e2, rfl⟩ := low_app hl
    cases hf : frS l x c with
    | none => rw [hf] at hq; cases hq
    | some f =>
     rw [hf] at hq
     cases hq
     refine ⟨f ++ p1, p2, by rw [List.append_assoc], List.mem_filterMap.2 ⟨x :: r, h0, ?_⟩, e2⟩
     unfold rdS
     simp only [e1, hf, Option.bind_some, Option.map_some]
theorem on_open {l : List Nd} (hR : Rgt l) {x : Itm} {r : List Itm} {c : UInt8} {q : List Itm} (hs : ∀ y ∈ x :: r, HdF l y) (hrd : rdyS l (x :: r) = false) (h : q ∈ onL l (x :: r) c) : ∃ t ∈ opnS l x r, q ∈ onL l t c := by
 unfold onL at h
 obtain ⟨t, ht, hq⟩ := List.mem_filterMap.1 h
 rw [rch_open hR hs hrd] at ht
 obtain ⟨p, hp, htp⟩ := List.mem_flatMap.1 ht
 exact ⟨p, hp, List.mem_filterMap.2 ⟨t, htp, hq⟩⟩
theorem on_ready {l : List Nd} {s : List Itm} {c : UInt8} {q : List Itm} (hrd : rdyS l s = true) (h : q ∈ onL l s c) : rdS l s c = some q := by
 unfold onL at h
 rw [rch_ready hrd] at h
 obtain ⟨t, ht, hq⟩ := List.mem_filterMap.1 h
 rw [List.mem_singleton.1 ht] at hq; exact hq
theorem on_nil {l : List Nd} {c : UInt8} {q : List Itm} (h : q ∈ onL l [] c) : False := by
 have := on_ready (l := l) (s := []) rfl h
 cases this
def cdN (l : List Nd) : Nat -> Nat -> Wd -> List (List Itm)
 | 0, _, _ => []
 | f + 1, i, u =>
  let n := atN l i
  if u = [] then [[⟨1, (i : Int), 0, 0⟩]]
  else if n.kind = 3 then [[], [⟨3, (i : Int), (u.length : Int), 0⟩]]
  else if n.kind = 4 then (cdN l f n.a.toNat u).map (· ++ [⟨1, n.b, 0, 0⟩]) ++ (List.range (u.length + 1)).flatMap fun k => cdN l f n.b.toNat (u.drop k)
  else if n.kind = 5 then cdN l f n.a.toNat u ++ cdN l f n.b.toNat u
  else if n.kind = 6 then (List.range (u.length + 1)).flatMap fun k => (cdN l f n.a.toNat (u.drop k)).map (· ++ [⟨1, (i : Int), 0, 0⟩])
  else if n.kind = 7 then (List.range (u.length + 1)).flatMap fun k => (List.range (k + 1)).flatMap fun t => (cdN l f n.a.toNat (u.drop k)).map (· ++ [⟨2, (i : Int), max 0 (n.lo - ((t + 1 : Nat) : Int)), n.hi - ((t + 1 : Nat) : Int)⟩])
  else if n.kind = 8 then (cdN l f n.a.toNat (u.drop 1)).map (· ++ [⟨5, 0, ((u.getD 0 0).toNat : Int) - ((u.length : Int) - 1), 0⟩])
  else if n.kind = 9 then (if u.length = 1 then [[⟨4, (i : Int), ((u.getD 0 0).toNat : Int), 0⟩]] else (cdN l f n.a.toNat (u.drop 2)).map (· ++ [⟨5, 0, 256 * ((u.getD 0 0).toNat : Int) + ((u.getD 1 0).toNat : Int) - ((u.length : Int) - 2), 0⟩]))
  else [[]]
theorem cd_nil (l : List Nd) (f i : Nat) : cdN l (f + 1) i [] = [[⟨1, (i : Int), 0, 0⟩]] := by unfold cdN; simp
set_option maxHeartbeats 1000000
theorem low_node (a : Int) {z : List Itm} (h : lowS [⟨1, a, 0, 0⟩] = some z) : z = [⟨1, a, 0, 0⟩] := by
 unfold lowS maylow lowI at h; simp at h; exact h.symm
theorem low_times (a lo hi : Int) {z : List Itm} (h : lowS [⟨2, a, lo, hi⟩] = some z) : z = [⟨2, a, lo, hi⟩] := by
 unfold lowS maylow lowI at h; simp at h; exact h.symm
theorem low_stop (k : Int) {z : List Itm} (h : lowS [⟨5, 0, k, 0⟩] = some z) : z = [⟨5, 0, k - 1, 0⟩] := by
 unfold lowS maylow lowI at h; simp at h; exact h.2.symm
theorem on_stop {l : List Nd} (hR : Rgt l) {k : Int} {c : UInt8} {q : List Itm} (hz : HdF l ⟨5, 0, k, 0⟩) (h : q ∈ onL l [⟨5, 0, k, 0⟩] c) : False := by
 obtain ⟨t, ht, hq⟩ := on_open hR (fun y hy => by rw [List.mem_singleton.1 hy]; exact hz) (by unfold rdyS; simp) h
 unfold opnS at ht
 simp only [if_true] at ht
 by_cases e : k = 0
 ·rw [if_pos e, List.mem_singleton] at ht
  rw [ht] at hq; exact on_nil hq
 ·rw [if_neg e] at ht; cases ht
theorem never_mem {l : List Nd} (hR : Rgt l) {i : Nat} (hi : i < l.length) (h : wyN l i = 0) (hf : HdF l ⟨1, (i : Int), 0, 0⟩) : ¬ [] ∈ rchS l [⟨1, (i : Int), 0, 0⟩] := fun hm => by
 have h1 := st_ends hR (s := [⟨1, (i : Int), 0, 0⟩]) (fun y hy => by rw [List.mem_singleton.1 hy]; exact hf)
 have h2 := List.count_pos_iff.2 hm
 rw [<- h1, nsW_cons (by simp), cvN_nil, itW_node, Int.toNat_natCast, nx_never hR hi h, Nat.zero_mul] at h2
 omega
theorem drop_more {u : Wd} {k : Nat} (c : UInt8) (h : k <= u.length) : (u ++ [c]).drop k = u.drop k ++ [c] := List.drop_append_of_le_length h
theorem rd_one {l : List Nd} {x : Itm} {c : UInt8} {q : List Itm} (h : rdS l [x] c = some q) : frS l x c = some q := by
 unfold rdS at h
 simp only [show lowS [] = some [] from rfl, Option.bind_some] at h
 cases hf : frS l x c with
 | none => rw [hf] at h; cases h
 | some f => rw [hf] at h; simp at h; rw [h]
theorem text_on {l : List Nd} {i p : Int} {c : UInt8} {q : List Itm} (h : q ∈ onL l [⟨3, i, p, 0⟩] c) : q = [] \/ q = [⟨3, i, p + 1, 0⟩] := by
 have h1 := rd_one (on_ready (by unfold rdyS; simp) h)
 unfold frS at h1
 simp only [if_true] at h1
 by_cases e : (atN l i.toNat).text.getD p.toNat 0 = c
 ·rw [if_pos e] at h1
  by_cases z : p + 1 < ((atN l i.toNat).text.length : Int)
  ·rw [if_pos z] at h1; right; simpa using h1.symm
  ·rw [if_neg z] at h1; left; simpa using h1.symm
 ·rw [if_neg e] at h1; cases h1
section
variable {l : List Nd} {f i : Nat} {u : Wd} (hu : ¬ u = [])
include hu
theorem cd_k3 (hk : (atN l i).kind = 3) : cdN l (f + 1) i u = [[], [⟨3, (i : Int), (u.length : Int), 0⟩]] := by conv => lhs; unfold cdN; rw [if_neg hu, if_pos hk]
theorem cd_k4 (hk : (atN l i).kind = 4) : cdN l (f + 1) i u = (cdN l f (atN l i).a.toNat u).map (· ++ [⟨1, (atN l i).b, 0, 0⟩]) ++ (List.range (u.length + 1)).flatMap fun k => cdN l f (atN l i).b.toNat (u.drop k) := by conv => lhs; unfold cdN; rw [if_neg hu, if_neg (by omega), if_pos hk]
theorem cd_k5 (hk : (atN l i).kind = 5) : cdN l (f + 1) i u = cdN l f (atN l i).a.toNat u ++ cdN l f (atN l i).b.toNat u := by conv => lhs; unfold cdN; rw [if_neg hu, if_neg (by omega), if_neg (by omega), if_pos hk]
theorem cd_k6 (hk : (atN l i).kind = 6) : cdN l (f + 1) i u = (List.range (u.length + 1)).flatMap fun k => (cdN l f (atN l i).a.toNat (u.drop k)).map (· ++ [⟨1, (i : Int), 0, 0⟩]) := by conv => lhs; unfold cdN; rw [if_neg hu, if_neg (by omega), if_neg (by omega), if_neg (by omega), if_pos hk]
theorem cd_k7 (hk : (atN l i).kind = 7) : cdN l (f + 1) i u = (List.range (u.length + 1)).flatMap fun k => (List.range (k + 1)).flatMap fun t => (cdN l f (atN l i).a.toNat (u.drop k)).map (· ++ [⟨2, (i : Int), max 0 ((atN l i).lo - ((t + 1 : Nat) : Int)), (atN l i).hi - ((t + 1 : Nat) : Int)⟩]) := by conv => lhs; unfold cdN; rw [if_neg hu, if_neg (by omega), if_neg (by omega), if_neg (by omega), if_neg (by omega), if_pos hk]
theorem cd_k8 (hk : (atN l i).kind = 8) : cdN l (f + 1) i u = (cdN l f (atN l i).a.toNat (u.drop 1)).map (· ++ [⟨5, 0, ((u.getD 0 0).toNat : Int) - ((u.length : Int) - 1), 0⟩]) := by conv => lhs; unfold cdN; rw [if_neg hu, if_neg (by omega), if_neg (by omega), if_neg (by omega), if_neg (by omega), if_neg (by omega), if_pos hk]
theorem cd_k9 (hk : (atN l i).kind = 9) : cdN l (f + 1) i u = (if u.length = 1 then [[⟨4, (i : Int), ((u.getD 0 0).toNat : Int), 0⟩]] else (cdN l f (atN l i).a.toNat (u.drop 2)).map (· ++ [⟨5, 0, 256 * ((u.getD 0 0).toNat : Int) + ((u.getD 1 0).toNat : Int) - ((u.length : Int) - 2), 0⟩])) := by conv => lhs; unfold cdN; rw [if_neg hu, if_neg (by omega), if_neg (by omega), if_neg (by omega), if_neg (by omega), if_neg (by omega), if_neg (by omega), if_pos hk]
theorem cd_k2 (hk : (atN l i).kind = 1 \/ (atN l i).kind = 2) : cdN l (f + 1) i u = [[]] := by conv => lhs; unfold cdN; rw [if_neg hu, if_neg (by omega), if_neg (by omega), if_neg (by omega), if_neg (by omega), if_neg (by omega), if_neg (by omega), if_neg (by omega)]
end
theorem cd_step {l : List Nd} (hR : Rgt l) : ∀ (f i : Nat) (u : Wd) (c : UInt8) (s q : List Itm), i < l.length -> i < f -> (∀ y ∈ s, HdF l y) -> s ∈ cdN l f i u -> q ∈ onL l s c -> q ∈ cdN l f i (u ++ [c]) := fun f => by
 induction f with
 | zero => intro i u c s q hi hif; omega
 | succ f ih =>
  intro i u c s q hi hif hs hm hq
  have hF := hR.1
  have hne : ¬ u ++ [c] = [] := by simp
  have hlen : (u ++ [c]).length = u.length + 1 := by simp
  have node : ∀ {j : Nat}, j < l.length -> HdF l ⟨1, (j : Int), 0, 0⟩ := fun {j} hj => ⟨fun h => by simp at h, fun _ => ⟨by simp only; omega, by simp only; omega⟩, ⟨by simp, by simp⟩, fun _ => ⟨rfl, rfl⟩, fun h => by simp at h, fun h => by simp at h, fun h => by simp at h⟩
  have one : ∀ {j : Nat}, j < l.length -> ∀ y ∈ [(⟨1, (j : Int), 0, 0⟩ : Itm)], HdF l y := fun {j} hj y hy => by rw [List.mem_singleton.1 hy]; exact node hj
  have hcs := hd_cs hF hi
  have kid : 4 <= (atN l i).kind -> 0 <= (atN l i).a /\ (atN l i).a.toNat < i := fun hk => by
   cases hcs with
   | leaf h1 hf => unfold leafK at h1; omega
   | one h1 hi0 ha hb h7 hr hcl hf => exact ⟨by omega, by omega⟩
   | two h1 hi0 hb ha hf0 hl hcl hf => exact ⟨by omega, by have := firstP_le l (i - 1); omega⟩
  have kidb : (atN l i).kind = 4 \/ (atN l i).kind = 5 -> 0 <= (atN l i).b /\ (atN l i).b.toNat < i := fun hk => by
   cases hcs with
   | leaf h1 hf => unfold leafK at h1; omega
   | one h1 hi0 ha hb h7 hr hcl hf => omega
   | two h1 hi0 hb ha hf0 hl hcl hf => exact ⟨by omega, by omega⟩
  have kit : ∀ {x : Int}, 0 <= x -> (x.toNat : Int) = x := fun {x} h => by omega
  have zero : ∀ {j : Nat}, j < f -> [(⟨1, (j : Int), 0, 0⟩ : Itm)] ∈ cdN l f j [] := fun {j} hj => by
   obtain ⟨g, rfl⟩ : ∃ g, f = g + 1 := ⟨f - 1, by omega⟩
   rw [cd_nil]; exact List.mem_singleton.2 rfl
  have first : ∀ {j : Nat} {q' : List Itm}, j < l.length -> j < f -> q' ∈ onL l [⟨1, (j : Int), 0, 0⟩] c -> q' ∈ cdN l f j [c] := fun {j q'} hj hjf h => by
   have := ih j [] c _ q' hj hjf (one hj) (zero hjf) h
   rwa [List.nil_append] at this
  have opn1 : ∀ {k : Int}, (atN l i).kind = k -> ¬ (k = 2 \/ k = 8 \/ k = 9) -> q ∈ onL l [⟨1, (i : Int), 0, 0⟩] c -> ∃ t ∈ opnS l ⟨1, (i : Int), 0, 0⟩ [], q ∈ onL l t c := fun {k} hk hn h => by
   refine on_open hR (one hi) ?_ h
   unfold rdyS
   simp only [Int.toNat_natCast, hk]
   simp
   omega
  have starOn : (atN l i).kind = 6 -> q ∈ onL l [⟨1, (i : Int), 0, 0⟩] c -> ∃ a', q = a' ++ [⟨1, (i : Int), 0, 0⟩] /\ a' ∈ cdN l f (atN l i).a.toNat [c] := fun h6 h => by
   obtain ⟨a0, aj⟩ := kid (by omega)
   obtain ⟨y1, -, -, -⟩ := hd_never hR hi (.inl h6)
   obtain ⟨t, ht, h⟩ := opn1 h6 (by omega) h
   unfold opnS at ht
   simp only [Int.toNat_natCast, h6] at ht
   simp at ht
   rcases ht with rfl | rfl
   ·exact absurd h on_nil
   ·rw [<- kit a0] at h
    rcases on_app hR (a := [_]) (one (by omega)) (node hi) h with ⟨a', z', rfl, h1, h2⟩ | ⟨h1, -⟩
    ·exact ⟨a', by rw [low_node _ h2], first (by omega) (by omega) h1⟩
    ·exact absurd h1 (never_mem hR (by omega) y1 (node (by omega)))
  have timesOn : ∀ {lo hi_ : Int}, (atN l i).kind = 7 -> HdF l ⟨2, (i : Int), lo, hi_⟩ -> q ∈ onL l [⟨2, (i : Int), lo, hi_⟩] c -> ∃ a', q = a' ++ [⟨2, (i : Int), max 0 (lo - 1), hi_ - 1⟩] /\ a' ∈ cdN l f (atN l i).a.toNat [c] := fun {lo hi_} h7 hx h => by
   obtain ⟨a0, aj⟩ := kid (by omega)
   obtain ⟨y1, -, -, -⟩ := hd_never hR hi (.inr h7)
   obtain ⟨t, ht, h⟩ := on_open hR (fun y hy => by rw [List.mem_singleton.1 hy]; exact hx) (by unfold rdyS; simp) h
   have hx2 : ∀ p r, HdF l ⟨2, (i : Int), p, r⟩ \/ True := fun _ _ => .inr trivial
   obtain ⟨g1, g2, g3, g4⟩ := hx.two rfl
   simp only [Int.toNat_natCast] at g1 g2 g3 g4
   unfold opnS at ht
   simp only [Int.toNat_natCast] at ht
   rw [if_neg (by decide), if_pos trivial, List.mem_append] at ht
   rcases ht with ht | ht
   ·by_cases e : lo = 0
    ·rw [if_pos e, List.mem_singleton] at ht; rw [ht] at h; exact absurd h on_nil
    ·rw [if_neg e] at ht; cases ht
   ·by_cases e : 0 < hi_
    ·rw [if_pos e, List.mem_singleton] at ht
     rw [ht, <- kit a0] at h
     have hz : HdF l ⟨2, (i : Int), max 0 (lo - 1), hi_ - 1⟩ := ⟨fun h => by simp at h, fun _ => ⟨by simp only; omega, by simp only; omega⟩, ⟨by simp, by simp⟩, fun h => by simp at h, fun _ => ⟨by simpa using g1, by simp only; omega, by simp only; omega, by simp only [Int.toNat_natCast]; omega⟩, fun h => by simp at h, fun h => by simp at h⟩
     rcases on_app hR (a := [_]) (one (by omega)) hz h with ⟨a', z', rfl, h1, h2⟩ | ⟨h1, -⟩
     ·exact ⟨a', by rw [low_times _ _ _ h2], first (by omega) (by omega) h1⟩
     ·exact absurd h1 (never_mem hR (by omega) y1 (node (by omega)))
    ·rw [if_neg e] at ht; cases ht
  by_cases hu : u = []
  ·subst hu
   rw [cd_nil, List.mem_singleton] at hm
   subst hm
   have hk : 1 <= (atN l i).kind /\ (atN l i).kind <= 9 := by
    cases hcs with
    | leaf h1 hf => unfold leafK at h1; omega
    | one h1 hi0 ha hb h7 hr hcl hf => omega
    | two h1 hi0 hb ha hf0 hl hcl hf => omega
   rw [List.nil_append]
   have hnc : ¬ ([c] : Wd) = [] := by simp
   have hdr : ([c] : Wd).drop 1 = [] := rfl
   by_cases k1 : (atN l i).kind = 1
   ·obtain ⟨t, ht, h⟩ := opn1 k1 (by omega) hq
    unfold opnS at ht
    simp [k1] at ht
    rw [ht] at h; exact absurd h on_nil
   ·by_cases k2 : (atN l i).kind = 2
    ·have h1 := rd_one (on_ready (by unfold rdyS; simp [k2]) hq)
     unfold frS at h1
     simp [k2] at h1
     rw [cd_k2 hnc (.inr k2), h1.2]; simp
    ·by_cases k3 : (atN l i).kind = 3
     ·obtain ⟨t, ht, h⟩ := opn1 k3 (by omega) hq
      unfold opnS at ht
      simp [k3] at ht
      rw [ht] at h
      rw [cd_k3 hnc k3]
      rcases text_on h with rfl | rfl <;> simp
     ·by_cases k4 : (atN l i).kind = 4
      ·obtain ⟨a0, aj⟩ := kid (by omega)
       obtain ⟨b0, bj⟩ := kidb (.inl k4)
       obtain ⟨t, ht, h⟩ := opn1 k4 (by omega) hq
       unfold opnS at ht
       simp [k4] at ht
       rw [ht, <- kit a0, <- kit b0] at h
       rw [cd_k4 hnc k4]
       rcases on_app hR (a := [_]) (one (by omega)) (node (by omega)) h with ⟨a', z', rfl, h1, h2⟩ | ⟨-, h1⟩
       ·refine List.mem_append.2 (.inl (List.mem_map.2 ⟨a', first (by omega) (by omega) h1, ?_⟩))
        rw [low_node _ h2, kit b0]
       ·exact List.mem_append.2 (.inr (List.mem_flatMap.2 ⟨0, List.mem_range.2 (by simp), first (by omega) (by omega) h1⟩))
      ·by_cases k5 : (atN l i).kind = 5
       ·obtain ⟨a0, aj⟩ := kid (by omega)
        obtain ⟨b0, bj⟩ := kidb (.inr k5)
        obtain ⟨t, ht, h⟩ := opn1 k5 (by omega) hq
        unfold opnS at ht
        simp [k5] at ht
        rw [cd_k5 hnc k5]
        rcases ht with rfl | rfl
        ·rw [<- kit a0] at h; exact List.mem_append.2 (.inl (first (by omega) (by omega) h))
        ·rw [<- kit b0] at h; exact List.mem_append.2 (.inr (first (by omega) (by omega) h))
       ·by_cases k6 : (atN l i).kind = 6
        ·obtain ⟨a', rfl, h1⟩ := starOn k6 hq
         rw [cd_k6 hnc k6]
         exact List.mem_flatMap.2 ⟨0, List.mem_range.2 (by simp), List.mem_map.2 ⟨a', h1, rfl⟩⟩
        ·by_cases k7 : (atN l i).kind = 7
         ·obtain ⟨t, ht, h⟩ := opn1 k7 (by omega) hq
          have hft := opn_form hF (node hi) (r := []) (fun y hy => by cases hy) ht
          unfold opnS at ht
          simp [k7] at ht
          rw [ht] at h hft
          obtain ⟨a', rfl, h1⟩ := timesOn k7 (hft _ (List.mem_singleton.2 rfl)) h
          rw [cd_k7 hnc k7]
          exact List.mem_flatMap.2 ⟨0, List.mem_range.2 (by simp), List.mem_flatMap.2 ⟨0, List.mem_range.2 (by omega), List.mem_map.2 ⟨a', h1, rfl⟩⟩⟩
         ·by_cases k8 : (atN l i).kind = 8
          ·obtain ⟨a0, aj⟩ := kid (by omega)
           have h1 := rd_one (on_ready (by unfold rdyS; simp [k8]) hq)
           unfold frS at h1
           simp [k8] at h1
           rw [cd_k8 hnc k8, <- h1, hdr]
           refine List.mem_map.2 ⟨_, zero (by omega), ?_⟩
           rw [kit a0]; simp
          ·have k9 : (atN l i).kind = 9 := by omega
           have h1 := rd_one (on_ready (by unfold rdyS; simp [k9]) hq)
           unfold frS at h1
           simp [k9] at h1
           rw [cd_k9 hnc k9, <- h1]; simp
  ·have hkk : 1 <= (atN l i).kind /\ (atN l i).kind <= 9 := by
    cases hcs with
    | leaf h1 hf => unfold leafK at h1; omega
    | one h1 hi0 ha hb h7 hr hcl hf => omega
    | two h1 hi0 hb ha hf0 hl hcl hf => omega
   have hul : 0 < u.length := List.length_pos_iff.2 hu
   have g0 : (u ++ [c]).getD 0 0 = u.getD 0 0 := by
    rw [List.getD_eq_getElem?_getD, List.getD_eq_getElem?_getD, List.getElem?_append_left hul]
   by_cases k12 : (atN l i).kind = 1 \/ (atN l i).kind = 2
   ·rw [cd_k2 hu k12, List.mem_singleton] at hm
    subst hm; exact absurd hq on_nil
   ·by_cases k3 : (atN l i).kind = 3
    ·rw [cd_k3 hu k3] at hm
     rw [cd_k3 hne k3, hlen]
     simp only [List.mem_cons, List.not_mem_nil, or_false] at hm
     rcases hm with rfl | rfl
     ·exact absurd hq on_nil
     ·rcases text_on hq with rfl | rfl <;> simp
    ·by_cases k4 : (atN l i).kind = 4
     ·obtain ⟨a0, aj⟩ := kid (by omega)
      obtain ⟨b0, bj⟩ := kidb (.inl k4)
      rw [cd_k4 hu k4] at hm
      rw [cd_k4 hne k4, hlen]
      rcases List.mem_append.1 hm with hm | hm
      ·obtain ⟨a1, ha1, rfl⟩ := List.mem_map.1 hm
       rw [<- kit b0] at hs hq
       have hsa : ∀ y ∈ a1, HdF l y := fun y hy => hs y (List.mem_append.2 (.inl hy))
       rcases on_app hR hsa (node (by omega)) hq with ⟨a', z', rfl, h1, h2⟩ | ⟨-, h1⟩
       ·refine List.mem_append.2 (.inl (List.mem_map.2 ⟨a', ih _ u c a1 a' (by omega) (by omega) hsa ha1 h1, ?_⟩))
        rw [low_node _ h2, kit b0]
       ·refine List.mem_append.2 (.inr (List.mem_flatMap.2 ⟨u.length, List.mem_range.2 (by omega), ?_⟩))
        rw [drop_more c (Nat.le_refl _), List.drop_length, List.nil_append]
        exact first (by omega) (by omega) h1
      ·obtain ⟨k, hk, hm⟩ := List.mem_flatMap.1 hm
       have hk := List.mem_range.1 hk
       refine List.mem_append.2 (.inr (List.mem_flatMap.2 ⟨k, List.mem_range.2 (by omega), ?_⟩))
       rw [drop_more c (by omega)]
       exact ih _ _ c s q (by omega) (by omega) hs hm hq
     ·by_cases k5 : (atN l i).kind = 5
      ·obtain ⟨a0, aj⟩ := kid (by omega)
       obtain ⟨b0, bj⟩ := kidb (.inr k5)
       rw [cd_k5 hu k5] at hm
       rw [cd_k5 hne k5]
       rcases List.mem_append.1 hm with hm | hm
       ·exact List.mem_append.2 (.inl (ih _ u c s q (by omega) (by omega) hs hm hq))
       ·exact List.mem_append.2 (.inr (ih _ u c s q (by omega) (by omega) hs hm hq))
      ·obtain ⟨a0, aj⟩ := kid (by omega)
       have hal : (atN l i).a.toNat < l.length := by omega
       have haf : (atN l i).a.toNat < f := by omega
       by_cases k6 : (atN l i).kind = 6
       ·rw [cd_k6 hu k6] at hm
        rw [cd_k6 hne k6, hlen]
        obtain ⟨k, hk, hm⟩ := List.mem_flatMap.1 hm
        have hk := List.mem_range.1 hk
        obtain ⟨a1, ha1, rfl⟩ := List.mem_map.1 hm
        have hsa : ∀ y ∈ a1, HdF l y := fun y hy => hs y (List.mem_append.2 (.inl hy))
        rcases on_app hR hsa (node hi) hq with ⟨a', z', rfl, h1, h2⟩ | ⟨-, h1⟩
        ·refine List.mem_flatMap.2 ⟨k, List.mem_range.2 (by omega), List.mem_map.2 ⟨a', ?_, by rw [low_node _ h2]⟩⟩
         rw [drop_more c (by omega)]
         exact ih _ _ c a1 a' hal haf hsa ha1 h1
        ·obtain ⟨a', rfl, h2⟩ := starOn k6 h1
         refine List.mem_flatMap.2 ⟨u.length, List.mem_range.2 (by omega), List.mem_map.2 ⟨a', ?_, rfl⟩⟩
         rw [drop_more c (Nat.le_refl _), List.drop_length, List.nil_append]; exact h2
       ·by_cases k7 : (atN l i).kind = 7
        ·rw [cd_k7 hu k7] at hm
         rw [cd_k7 hne k7, hlen]
         obtain ⟨k, hk, hm⟩ := List.mem_flatMap.1 hm
         have hk := List.mem_range.1 hk
         obtain ⟨t, ht, hm⟩ := List.mem_flatMap.1 hm
         have ht := List.mem_range.1 ht
         obtain ⟨a1, ha1, rfl⟩ := List.mem_map.1 hm
         have hsa : ∀ y ∈ a1, HdF l y := fun y hy => hs y (List.mem_append.2 (.inl hy))
         have hsz := hs _ (List.mem_append.2 (.inr (List.mem_singleton.2 rfl)))
         rcases on_app hR hsa hsz hq with ⟨a', z', rfl, h1, h2⟩ | ⟨h0, h1⟩
         ·refine List.mem_flatMap.2 ⟨k, List.mem_range.2 (by omega), List.mem_flatMap.2 ⟨t, List.mem_range.2 ht, List.mem_map.2 ⟨a', ?_, by rw [low_times _ _ _ h2]⟩⟩⟩
          rw [drop_more c (by omega)]
          exact ih _ _ c a1 a' hal haf hsa ha1 h1
         ·obtain ⟨y1, -, -, -⟩ := hd_never hR hi (.inr k7)
          have hku : k ≠ u.length := fun e => by
           subst e
           rw [List.drop_length] at ha1
           obtain ⟨g, rfl⟩ : ∃ g, f = g + 1 := ⟨f - 1, by omega⟩
           rw [cd_nil, List.mem_singleton] at ha1
           subst ha1
           exact never_mem hR hal y1 (node hal) h0
          obtain ⟨a', rfl, h2⟩ := timesOn k7 hsz h1
          refine List.mem_flatMap.2 ⟨u.length, List.mem_range.2 (by omega), List.mem_flatMap.2 ⟨t + 1, List.mem_range.2 (by omega), List.mem_map.2 ⟨a', ?_, ?_⟩⟩⟩
          ·rw [drop_more c (Nat.le_refl _), List.drop_length, List.nil_append]; exact h2
          ·simp only [List.append_cancel_left_eq, List.cons.injEq, and_true, Itm.mk.injEq, true_and]
           exact ⟨by omega, by omega⟩
        ·by_cases k8 : (atN l i).kind = 8
         ·rw [cd_k8 hu k8] at hm
          rw [cd_k8 hne k8, hlen, g0]
          obtain ⟨a1, ha1, rfl⟩ := List.mem_map.1 hm
          have hsa : ∀ y ∈ a1, HdF l y := fun y hy => hs y (List.mem_append.2 (.inl hy))
          have hsz := hs _ (List.mem_append.2 (.inr (List.mem_singleton.2 rfl)))
          rcases on_app hR hsa hsz hq with ⟨a', z', rfl, h1, h2⟩ | ⟨-, h1⟩
          ·refine List.mem_map.2 ⟨a', ?_, ?_⟩
           ·rw [drop_more c (by omega)]
            exact ih _ _ c a1 a' hal haf hsa ha1 h1
           ·rw [low_stop _ h2]
            simp only [List.append_cancel_left_eq, List.cons.injEq, and_true, Itm.mk.injEq, true_and]
            omega
          ·exact absurd h1 (on_stop hR hsz)
         ·have k9 : (atN l i).kind = 9 := by
           cases hcs with
           | leaf h1 hf => unfold leafK at h1; omega
           | one h1 hi0 ha hb h7 hr hcl hf => omega
           | two h1 hi0 hb ha hf0 hl hcl hf => omega
          rw [cd_k9 hu k9] at hm
          rw [cd_k9 hne k9, hlen, g0, if_neg (by omega)]
          by_cases e1 : u.length = 1
          ·rw [if_pos e1, List.mem_singleton] at hm
           subst hm
           have h1 := rd_one (on_ready (by unfold rdyS; simp) hq)
           unfold frS at h1
           simp at h1
           have g1 : (u ++ [c]).getD 1 0 = c := by
            rw [List.getD_eq_getElem?_getD, List.getElem?_append_right (by omega), e1]; rfl
           rw [g1, show (u ++ [c]).drop 2 = [] from List.drop_eq_nil_iff.2 (by omega)]
           refine List.mem_map.2 ⟨_, zero haf, ?_⟩
           rw [<- h1, kit a0]
           simp
           omega
          ·rw [if_neg e1] at hm
           have g1 : (u ++ [c]).getD 1 0 = u.getD 1 0 := by
            rw [List.getD_eq_getElem?_getD, List.getD_eq_getElem?_getD, List.getElem?_append_left (by omega)]
           rw [g1]
           obtain ⟨a1, ha1, rfl⟩ := List.mem_map.1 hm
           have hsa : ∀ y ∈ a1, HdF l y := fun y hy => hs y (List.mem_append.2 (.inl hy))
           have hsz := hs _ (List.mem_append.2 (.inr (List.mem_singleton.2 rfl)))
           rcases on_app hR hsa hsz hq with ⟨a', z', rfl, h1, h2⟩ | ⟨-, h1⟩
           ·refine List.mem_map.2 ⟨a', ?_, ?_⟩
            ·rw [drop_more c (by omega)]
             exact ih _ _ c a1 a' hal haf hsa ha1 h1
            ·rw [low_stop _ h2]
             simp only [List.append_cancel_left_eq, List.cons.injEq, and_true, Itm.mk.injEq, true_and]
             omega
           ·exact absurd h1 (on_stop hR hsz)
end Go.Proofs.Ytidoofdofdhjpaa
namespace Go.Proofs.Ytidoofdofdhjpaa
open Go
set_option linter.unusedVariables false
set_option linter.unusedSimpArgs false
def psG (g : Nat -> Nat) : Nat -> Nat
 | 0 => g 0
 | n + 1 => psG g n + g (n + 1)
def pcG : Nat -> Nat -> Nat
 | 0 => fun _ => 1
 | s + 1 => psG (pcG s)
theorem pc_zero : ∀ s, pcG s 0 = 1
 | 0 => rfl
 | s + 1 => pc_zero s
theorem pc_next (s n : Nat) : pcG (s + 1) (n + 1) = pcG (s + 1) n + pcG s (n + 1) := rfl
theorem pc_one : ∀ s, pcG s 1 = s + 1
 | 0 => rfl
 | s + 1 => by rw [pc_next, pc_zero, pc_one s]; omega
theorem pc_pos : ∀ s n, 1 <= pcG s n
 | 0, n => Nat.le_refl _
 | s + 1, 0 => by rw [pc_zero]; exact Nat.le_refl _
 | s + 1, n + 1 => by rw [pc_next]; have := pc_pos s (n + 1); omega
theorem pc_up (s n : Nat) : pcG s n <= pcG (s + 1) n := by
 cases n with
 | zero => rw [pc_zero, pc_zero]; exact Nat.le_refl _
 | succ n => rw [pc_next]; omega
theorem pc_le {s t : Nat} (h : s <= t) (n : Nat) : pcG s n <= pcG t n := by
 induction h with
 | refl => exact Nat.le_refl _
 | step h ih => exact Nat.le_trans ih (pc_up _ n)
theorem pc_add : ∀ (A B n : Nat), pcG A (n + 1) + pcG B (n + 1) <= pcG (A + B + 1) (n + 1) := fun A => by
 induction A with
 | zero =>
  intro B n
  rw [Nat.zero_add, pc_next]
  have h1 := pc_pos (B + 1) n
  have h2 : pcG 0 (n + 1) = 1 := rfl
  omega
 | succ A ihA =>
  intro B n
  induction n with
  | zero => rw [pc_one, pc_one, pc_one]; omega
  | succ n ihn =>
   have h1 := ihA B (n + 1)
   rw [show A + 1 + B + 1 = (A + B + 1) + 1 by omega, pc_next (A + B + 1), pc_next A]
   rw [show A + 1 + B + 1 = (A + B + 1) + 1 by omega] at ihn
   omega
theorem sum_front {g : Nat -> Nat} (n : Nat) : ((List.range (n + 1 + 1)).map g).sum = g 0 + ((List.range (n + 1)).map fun k => g (k + 1)).sum := by
 rw [List.range_succ_eq_map, List.map_cons, List.sum_cons, List.map_map]; rfl
theorem pc_sum (A : Nat) : ∀ n, ((List.range (n + 1)).map fun k => pcG A (n - k)).sum = pcG (A + 1) n
 | 0 => by simp [pc_zero]
 | n + 1 => by
  rw [sum_front, pc_next, <- pc_sum A n, Nat.add_comm]
  congr 1
  refine congrArg List.sum (List.map_congr_left fun k _ => ?_)
  rw [show n + 1 - (k + 1) = n - k by omega]
theorem sum_addG {f g : Nat -> Nat} : ∀ l : List Nat, (l.map fun k => f k + g k).sum = (l.map f).sum + (l.map g).sum
 | [] => rfl
 | a :: l => by rw [List.map_cons, List.sum_cons, sum_addG l, List.map_cons, List.sum_cons, List.map_cons, List.sum_cons]; omega
theorem pc_sum2 (A : Nat) : ∀ n, ((List.range (n + 1)).map fun k => (k + 1) * pcG A (n - k)).sum = pcG (A + 2) n
 | 0 => by simp [pc_zero]
 | n + 1 => by
  rw [sum_front, show A + 2 = A + 1 + 1 from rfl, pc_next, <- pc_sum2 A n, <- pc_sum A (n + 1), sum_front]
  rw [show (fun k => (k + 1 + 1) * pcG A (n + 1 - (k + 1))) = fun k => (k + 1) * pcG A (n - k) + pcG A (n + 1 - (k + 1)) from funext fun k => by rw [show n + 1 - (k + 1) = n - k by omega, Nat.add_mul (k + 1), Nat.one_mul]]
  rw [sum_addG]
  simp only [Nat.zero_add, Nat.one_mul]
  omega
theorem sum_leG {f g : Nat -> Nat} : ∀ {l : List Nat}, (∀ k ∈ l, f k <= g k) -> (l.map f).sum <= (l.map g).sum
 | [], _ => Nat.le_refl _
 | a :: l, h => by
  rw [List.map_cons, List.sum_cons, List.map_cons, List.sum_cons]
  have h1 := h a (List.mem_cons_self ..)
  have h2 := sum_leG fun k hk => h k (List.mem_cons_of_mem _ hk)
  omega
theorem fmap_len {α : Type} (f : Nat -> List α) : ∀ l : List Nat, (l.flatMap f).length = (l.map fun k => (f k).length).sum
 | [] => rfl
 | a :: l => by rw [List.flatMap_cons, List.length_append, fmap_len f l, List.map_cons, List.sum_cons]
theorem flat_same {α : Type} {n : Nat} (f : Nat -> List α) : ∀ l : List Nat, (∀ k ∈ l, (f k).length <= n) -> (l.flatMap f).length <= l.length * n
 | [], _ => by simp
 | a :: l, h => by
  rw [List.flatMap_cons, List.length_append, List.length_cons, Nat.add_mul, Nat.one_mul]
  have h1 := h a (List.mem_cons_self ..)
  have h2 := flat_same f l fun k hk => h k (List.mem_cons_of_mem _ hk)
  omega
theorem cd_len {l : List Nd} (hF : Form l) : ∀ (f i : Nat) (u : Wd), i < l.length -> i < f -> (cdN l f i u).length <= pcG (2 * hsz l i) u.length := fun f => by
 induction f with
 | zero => intro i u hi hif; omega
 | succ f ih =>
  intro i u hi hif
  have hcs := hd_cs hF hi
  by_cases hu : u = []
  ·subst hu; rw [cd_nil, List.length_nil, pc_zero]; exact Nat.le_refl _
  ·obtain ⟨n, hn⟩ : ∃ n, u.length = n + 1 := ⟨u.length - 1, by have := List.length_pos_iff.2 hu; omega⟩
   have hp := hsz_pos l i
   cases hcs with
   | leaf h1 hf =>
    unfold leafK at h1
    by_cases k3 : (atN l i).kind = 3
    ·rw [cd_k3 hu k3, hn]
     have h1 := pc_le (s := 1) (t := 2 * hsz l i) (by omega) (n + 1)
     have h2 := pc_one 1
     have h3 : 2 <= pcG 1 (n + 1) := by show 2 <= pcG 1 n + pcG 0 (n + 1); have h4 := pc_pos 1 n; have h5 : pcG 0 (n + 1) = 1 := rfl; omega
     simp only [List.length_cons, List.length_nil]
     omega
    ·rw [cd_k2 hu (by omega)]; exact pc_pos _ _
   | one h1 hi0 ha hb h7 hr hcl hf =>
    have e : (atN l i).a.toNat = i - 1 := by omega
    have hz : hsz l i = hsz l (i - 1) + 1 := by unfold hsz; have := firstP_le l (i - 1); omega
    have hsub : ∀ v : Wd, (cdN l f (i - 1) v).length <= pcG (2 * hsz l (i - 1)) v.length := fun v => ih (i - 1) v (by omega) (by omega)
    have hmono : ∀ {A m : Nat}, pcG A m <= pcG A (m + 1) := fun {A m} => by
     cases A with
     | zero => exact Nat.le_refl _
     | succ A => rw [pc_next]; omega
    rw [hz, show 2 * (hsz l (i - 1) + 1) = 2 * hsz l (i - 1) + 2 by omega]
    generalize 2 * hsz l (i - 1) = A at *
    by_cases k6 : (atN l i).kind = 6
    ·rw [cd_k6 hu k6, fmap_len, e]
     refine Nat.le_trans (sum_leG (g := fun k => pcG A (u.length - k)) fun k hk => ?_) ?_
     ·rw [List.length_map]
      have := hsub (u.drop k)
      rwa [List.length_drop] at this
     ·rw [pc_sum]; exact pc_up _ _
    ·by_cases k7 : (atN l i).kind = 7
     ·rw [cd_k7 hu k7, fmap_len, e]
      refine Nat.le_trans (sum_leG (g := fun k => (k + 1) * pcG A (u.length - k)) fun k hk => ?_) ?_
      ·have := flat_same (n := pcG A (u.length - k)) (fun t => (cdN l f (i - 1) (u.drop k)).map (· ++ [(⟨2, (i : Int), max 0 ((atN l i).lo - ((t + 1 : Nat) : Int)), (atN l i).hi - ((t + 1 : Nat) : Int)⟩ : Itm)])) (List.range (k + 1)) (fun t _ => by
        rw [List.length_map]
        have := hsub (u.drop k)
        rwa [List.length_drop] at this)
       rwa [List.length_range] at this
      ·rw [pc_sum2]; exact Nat.le_refl _
     ·by_cases k8 : (atN l i).kind = 8
      ·rw [cd_k8 hu k8, List.length_map, e]
       have h2 := hsub (u.drop 1)
       rw [List.length_drop, hn, Nat.add_sub_cancel] at h2
       rw [hn]
       exact Nat.le_trans (Nat.le_trans h2 hmono) (pc_le (by omega) _)
      ·rw [cd_k9 hu (by omega)]
       by_cases e1 : u.length = 1
       ·rw [if_pos e1]; exact pc_pos _ _
       ·rw [if_neg e1, List.length_map, e]
        have h2 := hsub (u.drop 2)
        obtain ⟨m, rfl⟩ : ∃ m, n = m + 1 := ⟨n - 1, by omega⟩
        rw [List.length_drop, hn, show m + 1 + 1 - 2 = m by omega] at h2
        rw [hn]
        exact Nat.le_trans (Nat.le_trans (Nat.le_trans h2 hmono) hmono) (pc_le (by omega) _)
   | two h1 hi0 hb ha hf0 hl hcl hf =>
    have ea : (atN l i).a.toNat = firstP l (i - 1) - 1 := by omega
    have eb : (atN l i).b.toNat = i - 1 := by omega
    have q1 := firstP_le l (i - 1)
    have q2 := firstP_le l (firstP l (i - 1) - 1)
    have hz : hsz l i = hsz l (firstP l (i - 1) - 1) + hsz l (i - 1) + 1 := by unfold hsz; omega
    have hsa := ih (firstP l (i - 1) - 1) u (by omega) (by omega)
    have hsb : ∀ v : Wd, (cdN l f (i - 1) v).length <= pcG (2 * hsz l (i - 1)) v.length := fun v => ih (i - 1) v (by omega) (by omega)
    rw [hz]
    generalize hsz l (firstP l (i - 1) - 1) = x at *
    generalize hsz l (i - 1) = y at *
    rw [hn] at hsa
    by_cases k4 : (atN l i).kind = 4
    ·rw [cd_k4 hu k4, List.length_append, List.length_map, fmap_len, ea, eb]
     have h2 : ((List.range (u.length + 1)).map fun k => (cdN l f (i - 1) (u.drop k)).length).sum <= pcG (2 * y + 1) u.length := by
      rw [<- pc_sum]
      refine sum_leG fun k _ => ?_
      have := hsb (u.drop k)
      rwa [List.length_drop] at this
     rw [hn] at h2 ⊢
     have h3 := pc_add (2 * x) (2 * y + 1) n
     rw [show 2 * x + (2 * y + 1) + 1 = 2 * (x + y + 1) by omega] at h3
     omega
    ·rw [cd_k5 hu (by omega), List.length_append, ea, eb, hn]
     have h2 := hsb u
     rw [hn] at h2
     have h3 := pc_add (2 * x) (2 * y) n
     have h4 := pc_le (s := 2 * x + 2 * y + 1) (t := 2 * (x + y + 1)) (by omega) (n + 1)
     omega
def scG : Nat -> List Nat -> List Nat
 | _, [] => []
 | a, x :: xs => (a + x) :: scG (a + x) xs
theorem sc_is (g : Nat -> Nat) : ∀ (N m : Nat), scG (psG g m) ((List.range' (m + 1) N).map g) = (List.range' (m + 1) N).map (psG g)
 | 0, m => rfl
 | N + 1, m => by
  rw [List.range'_succ, List.map_cons, List.map_cons]
  show (psG g m + g (m + 1)) :: scG (psG g m + g (m + 1)) _ = _
  have := sc_is g N (m + 1)
  rw [show psG g (m + 1) = psG g m + g (m + 1) from rfl] at this
  rw [this]; rfl
def rwG (N : Nat) : Nat -> List Nat
 | 0 => List.replicate (N + 1) 1
 | s + 1 => match rwG N s with
  | [] => []
  | x :: xs => x :: scG x xs
theorem rw_is (N : Nat) : ∀ s, rwG N s = pcG s 0 :: (List.range' 1 N).map (pcG s)
 | 0 => by
  unfold rwG pcG
  rw [List.replicate_succ]
  congr 1
  simp [List.map_const']
 | s + 1 => by
  unfold rwG
  rw [rw_is N s]
  simp only
  rw [show pcG (s + 1) 0 = pcG s 0 from rfl]
  congr 1
  exact sc_is (pcG s) N 0
theorem pc_row {N s n : Nat} (h : n + 1 <= N) : pcG s (n + 1) = (rwG N s).getD (n + 1) 0 := by
 rw [rw_is, List.getD_cons_succ, List.getD_eq_getElem?_getD, List.getElem?_map, List.getElem?_range' (by omega)]
 simp [Nat.add_comm]
theorem pc_small : pcG 34 9 <= 600000000 := by rw [pc_row (N := 9) (by omega)]; decide +kernel
theorem pc_rise {A m n : Nat} (h : m <= n) : pcG A m <= pcG A n := by
 induction h with
 | refl => exact Nat.le_refl _
 | step h ih =>
  refine Nat.le_trans ih ?_
  cases A with
  | zero => exact Nat.le_refl _
  | succ A => rw [pc_next]; omega
theorem cd_slen {l : List Nd} : ∀ (f i : Nat) (u : Wd) (s : List Itm), s ∈ cdN l f i u -> s.length <= f := fun f => by
 induction f with
 | zero => intro i u s h; unfold cdN at h; cases h
 | succ f ih =>
  intro i u s h
  have mp : ∀ {j : Nat} {v : Wd} {z : Itm}, s ∈ (cdN l f j v).map (· ++ [z]) -> s.length <= f + 1 := fun {j v z} hm => by
   obtain ⟨a, ha, rfl⟩ := List.mem_map.1 hm
   have := ih _ _ _ ha
   rw [List.length_append, List.length_singleton]; omega
  have up : ∀ {j : Nat} {v : Wd}, s ∈ cdN l f j v -> s.length <= f + 1 := fun {j v} hm => by have := ih _ _ _ hm; omega
  by_cases hu : u = []
  ·subst hu; rw [cd_nil, List.mem_singleton] at h; subst h; simp
  ·by_cases k3 : (atN l i).kind = 3
   ·rw [cd_k3 hu k3] at h
    simp at h
    rcases h with rfl | rfl <;> simp
   ·by_cases k4 : (atN l i).kind = 4
    ·rw [cd_k4 hu k4] at h
     rcases List.mem_append.1 h with h | h
     ·exact mp h
     ·obtain ⟨k, -, h⟩ := List.mem_flatMap.1 h; exact up h
    ·by_cases k5 : (atN l i).kind = 5
     ·rw [cd_k5 hu k5] at h
      rcases List.mem_append.1 h with h | h <;> exact up h
     ·by_cases k6 : (atN l i).kind = 6
      ·rw [cd_k6 hu k6] at h
       obtain ⟨k, -, h⟩ := List.mem_flatMap.1 h; exact mp h
      ·by_cases k7 : (atN l i).kind = 7
       ·rw [cd_k7 hu k7] at h
        obtain ⟨k, -, h⟩ := List.mem_flatMap.1 h
        obtain ⟨t, -, h⟩ := List.mem_flatMap.1 h; exact mp h
       ·by_cases k8 : (atN l i).kind = 8
        ·rw [cd_k8 hu k8] at h; exact mp h
        ·by_cases k9 : (atN l i).kind = 9
         ·rw [cd_k9 hu k9] at h
          by_cases e : u.length = 1
          ·rw [if_pos e] at h; simp at h; subst h; simp
          ·rw [if_neg e] at h; exact mp h
         ·unfold cdN at h
          rw [if_neg hu, if_neg k3, if_neg k4, if_neg k5, if_neg k6, if_neg k7, if_neg k8, if_neg k9] at h
          simp at h; subst h; simp
def CdS (l : List Nd) (u : Wd) (s : List Itm) : Prop := (∀ y ∈ s, HdF l y) /\ s ∈ cdN l l.length (l.length - 1) u
theorem cds_start {l : List Nd} (h : 0 < l.length) : CdS l [] (stL l) := ⟨st_form h, by
 obtain ⟨g, hg⟩ : ∃ g, l.length = g + 1 := ⟨l.length - 1, by omega⟩
 rw [hg, cd_nil, List.mem_singleton]
 unfold stL
 rw [hg]
 congr 2
 omega⟩
theorem cds_step {l : List Nd} (hR : Rgt l) {u : Wd} {c : UInt8} {s : List Itm} (h : CdS l u s) : ∀ q ∈ onL l s c, CdS l (u ++ [c]) q := fun q hq =>
 ⟨on_form hR.1 h.1 hq, cd_step hR _ _ u c s q (by have := hR.1.1; omega) (by have := hR.1.1; omega) h.1 h.2 hq⟩
theorem cds_len {l : List Nd} {u : Wd} {s : List Itm} (h : CdS l u s) : s.length <= l.length := cd_slen _ _ _ _ h.2
theorem nx_cds {l : List Nd} (hR : Rgt l) {u : Wd} {c : UInt8} {L : Brs} (h : AllB (CdS l u) L) : AllB (CdS l (u ++ [c])) (nxB l c L) := nx_all (fun s hs => cds_step hR hs) h
theorem cds_few {l : List Nd} (hF : Form l) (hl : l.length <= 17) {u : Wd} (hu : u.length <= 9) {L : Brs} (hs : HdSrt L) (h : AllB (CdS l u) L) : L.length <= 600000000 := by
 have h0 := hF.1
 have h1 := nodup_among (srt_nodup hs) (A := cdN l l.length (l.length - 1) u) fun t ht => by
  obtain ⟨a, ha, rfl⟩ := List.mem_map.1 ht
  exact (h a ha).2
 rw [List.length_map] at h1
 have h2 := cd_len hF l.length (l.length - 1) u (by omega) (by omega)
 have h3 : hsz l (l.length - 1) <= 17 := by unfold hsz; omega
 have h4 := pc_le (s := 2 * hsz l (l.length - 1)) (t := 34) (by omega) u.length
 have h5 := pc_rise (A := 34) hu
 have h6 := pc_small
 omega
theorem fold_ok {k : Nat} (hk : 1 <= k) : ∀ (G : Brs) {L : Brs}, PosB G -> HdSrt L -> PosB L -> HdSrt (G.foldl (fun M b => addB M b.1 (min 2 (k * b.2))) L) /\ PosB (G.foldl (fun M b => addB M b.1 (min 2 (k * b.2))) L)
 | [], L, _, h1, h2 => ⟨h1, h2⟩
 | b :: G, L, g, h1, h2 => by
  rw [List.foldl_cons]
  have hb := g b (List.mem_cons_self ..)
  have hkb : 1 <= k * b.2 := Nat.mul_pos hk (by omega)
  exact fold_ok hk G (fun a ha => g a (List.mem_cons_of_mem _ ha)) (srt_add h1) (pos_add (by omega) (Nat.min_le_left _ _) h2)
theorem nx_okF {l : List Nd} {c : UInt8} : ∀ (L : Brs) {M : Brs}, PosB L -> HdSrt M -> PosB M -> HdSrt (L.foldl (fun M a => (brsL (onL l a.1 c)).foldl (fun M b => addB M b.1 (min 2 (a.2 * b.2))) M) M) /\ PosB (L.foldl (fun M a => (brsL (onL l a.1 c)).foldl (fun M b => addB M b.1 (min 2 (a.2 * b.2))) M) M)
 | [], M, _, h1, h2 => ⟨h1, h2⟩
 | a :: L, M, g, h1, h2 => by
  rw [List.foldl_cons]
  obtain ⟨k1, k2⟩ := fold_ok (k := a.2) (g a (List.mem_cons_self ..)).1 (brsL (onL l a.1 c)) (brsL_all _).2.1 h1 h2
  exact nx_okF L (fun b hb => g b (List.mem_cons_of_mem _ hb)) k1 k2
theorem nx_ok {l : List Nd} {c : UInt8} {L : Brs} (h : PosB L) : HdSrt (nxB l c L) /\ PosB (nxB l c L) := nx_okF L h List.Pairwise.nil (fun a ha => by cases ha)
end Go.Proofs.Ytidoofdofdhjpaa
