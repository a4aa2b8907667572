/- Sizes of nodes and descriptions: walked. -/
import Derived.Test.YtcgjmnhmhiddkaaGreatDoorM20
import Derived.Test.YtcgjmnhmhiddkaaGreatDoorM14
import Derived.Test.YtcgjmnhmhiddkaaGreatDoorM03
namespace Go.Proofs.YtcgjmnhmhiddkaaGreatDoor
open Go Go.RowKit
set_option linter.unusedVariables false
set_option linter.unusedSimpArgs false
theorem wpList_make_int {w : World} {ops : Array Oper} {rest : List Oper} {o : Oper} {a : Act} {Q : Exit → Act → World → Prop} (hgd : o.guard = none) (l c : Operand) (hop : o.op = Op.makeSlice 46 l c)
    (C : Int) (n : Nat) (hl : a.eval l = .int .i64 0) (hc : a.eval c = .int .i64 C) (hC : C = (n : Int)) (hn : n ≤ 1073741824)
    (hK : ∀ w', OwnI w' w.heap.size (.slice (some ⟨w.heap.size, 0, none⟩) 0 n) [] → Below w.heap.size w w' → wpList Tryz.prog ops Q rest (a.put o.dst (.slice (some ⟨w.heap.size, 0, none⟩) 0 n)) w') : wpList Tryz.prog ops Q (o :: rest) a w := by
  obtain ⟨ib, hib, hz0, hz1, hz2⟩ := info_parts infoI
  exact wpList_make_own w hgd l c 46 hop w.heap.size 3 ib _ 1 Tryz.underlying46 hib hz0 hz1 .i64 .i64 C n hl hc hC (by rw [hz2]; omega) (by unfold maxLen; omega) (Nat.le_refl _)
    fun w' h1 h2 => hK w' h1 ⟨h2.os, h2.tape, h2.output, h2.size, fun k hk => h2.block k hk (by simp)⟩
theorem natI_snoc (S : List Nat) (x : Nat) : natI S ++ [(x : Int)] = natI (S ++ [x]) := by unfold natI; simp
set_option maxRecDepth 100000
theorem nblk_typed {w : World} {b c : Nat} {vs us : Array Value} {t u : TypeId} (h : Blk w b vs t) (k : Blk w c us u) (hne : t ≠ u) : b ≠ c := by
  intro e; subst e
  unfold Blk at h k
  rw [h] at k
  have := Option.some.inj k
  injection this with _ h2
  exact hne h2
theorem nblk_gb {w w' : World} {b : Nat} {vs : Array Value} {t : TypeId} {ro : Option Nat} (h : Blk w b vs t) (hne : ro ≠ some b) (hg : w.grownBy w' ro) : Blk w' b vs t := (hg.block b h.lt (fun e => hne e.symm)).trans h
theorem OwnI.ownb {w : World} {base : Nat} {v : Value} {l : List Int} (h : OwnI w base v l) {g : Nat} (hg : v.ownBlock = some g) : ∃ cur, Blk w g cur 3 ∧ base ≤ g := by
  obtain ⟨h0, ⟨hv, hn⟩ | ⟨g2, cap, cur, hv, hb2, hk, hr⟩⟩ := h
  · rw [hv] at hg; cases hg
  · rw [hv] at hg; cases hg
    exact ⟨cur, hk, hb2⟩
theorem OwnI.setb {w : World} {base : Nat} {v : Value} {l : List Int} (h : OwnI w base v l) {g : Nat} {vs : Array Value} {t : TypeId} (hb : Blk w g vs t) (ht : t ≠ 3) (o : Nat) (u : Value) : OwnI (w.setCell ⟨g, o, none⟩ u) base v l := by
  obtain ⟨h0, ⟨hv, hn⟩ | ⟨g2, cap, cur, hv, hb2, hg, hr⟩⟩ := h
  · exact ⟨h0, .inl ⟨hv, hn⟩⟩
  · have hk : Blk w g2 cur 3 := hg
    exact ⟨h0, .inr ⟨g2, cap, cur, hv, hb2, hk.setCell_ne (a := ⟨g, o, none⟩) (nblk_typed hb hk ht) u, hr⟩⟩
theorem IsMapK.setb {w : World} {m : Nat} {l : List (Int × Value)} (h : IsMapK w m l) {g : Nat} {vs : Array Value} {t : TypeId} (hb : Blk w g vs t) (o : Nat) (v : Value) : IsMapK (w.setCell ⟨g, o, none⟩ v) m l := by
  have hm : m ≠ g := fun e => by
    subst e
    unfold Blk at hb; unfold IsMapK at h
    rw [hb] at h; cases h
  unfold IsMapK
  rw [Below.heap_setCell _ _ _ _ (fun e => hm e)]; exact h
theorem IsMapK.gb {w w' : World} {m : Nat} {l : List (Int × Value)} (h : IsMapK w m l) {ro : Option Nat} (hne : ro ≠ some m) (hg : w.grownBy w' ro) : IsMapK w' m l := (hg.block m h.lt (fun e => hne e.symm)).trans h
structure ToS (w0 : World) (m bf bw : Nat) (A : Option Addr) (l : List Nd) (S : List Nat) (v : Value) (w : World) : Prop where
  bel : Below w0.heap.size w0 w
  map : IsMapK w m (wL bf)
  fn : Blk w bf #[fnW bw] 116
  box : Blk w bw #[v] 46
  own : OwnI w w0.heap.size v (natI S)
  row : NRow w A l
  low : w0.heap.size ≤ bw
theorem ToS.later {w0 w w' : World} {m bf bw : Nat} {A : Option Addr} {l : List Nd} {S : List Nat} {v : Value} (h : ToS w0 m bf bw A l S v w) (hb : Below w.heap.size w w') : ToS w0 m bf bw A l S v w' :=
  ⟨h.bel.trans (hb.mono h.bel.size), h.map.later hb, h.fn.later hb, h.box.later hb, h.own.later hb, h.row.later hb, h.low⟩
theorem ToS.box_gb {w0 w w' : World} {m bf bw : Nat} {A : Option Addr} {l : List Nd} {S : List Nat} {v : Value} (h : ToS w0 m bf bw A l S v w) (hg : w.grownBy w' v.ownBlock) : Blk w' bw #[v] 46 :=
  nblk_gb h.box (fun e => by
    obtain ⟨cur, h1, _⟩ := h.own.ownb e
    exact nblk_typed h.box h1 (by decide) rfl) hg
theorem ToS.step {w0 w w' : World} {m bf bw : Nat} {A : Option Addr} {l : List Nd} {S S' : List Nat} {v v' : Value} (h : ToS w0 m bf bw A l S v w) (hA : ∀ b o, A = some ⟨b, o, none⟩ → b < w0.heap.size) (hg : w.grownBy w' v.ownBlock) (ho : OwnI w' w0.heap.size v' (natI S')) :
    ToS w0 m bf bw A l S' v' (w'.setCell ⟨bw, 0, none⟩ v') := by
  have hB : Below w0.heap.size w w' := (Below.refl w0.heap.size w).grown hg h.bel.size (fun k hk => (World.ownsRow.lt h.own k hk).1)
  have hx := h.box_gb hg
  have hf : Blk w' bf #[fnW bw] 116 := nblk_gb h.fn (fun e => by
    obtain ⟨cur, h1, _⟩ := h.own.ownb e
    exact nblk_typed h.fn h1 (by decide) rfl) hg
  have hm : IsMapK w' m (wL bf) := h.map.gb (fun e => by
    obtain ⟨cur, h1, _⟩ := h.own.ownb e
    have h2 := h.map
    unfold Blk at h1; unfold IsMapK at h2
    rw [h1] at h2; cases h2) hg
  have hB2 : Below w0.heap.size w' (w'.setCell ⟨bw, 0, none⟩ v') := (Below.refl _ _).setCell (p := ⟨bw, 0, none⟩) h.low _
  exact ⟨(h.bel.trans hB).trans hB2, hm.setb hx _ _, hf.setCell_ne (a := ⟨bw, 0, none⟩) (nblk_typed hx hf (by decide)) _, by have := hx.setCell 0 v'; simpa using this, ho.setb hx (by decide) _ _, (h.row.below hA hB hB.size).below hA hB2 hB2.size, h.low⟩
def ToL (w0 : World) (m bf bw : Nat) (A : Option Addr) (l : List Nd) (x : Value) (w : World) : Prop := ∃ (k : Nat) (v : Value), k ≤ l.length ∧ x = .int .i64 (k : Int) ∧ ToS w0 m bf bw A l (wys l k) v w
def ToPost (w : World) (S : List Nat) (n : Nat) (e : Ending) (w' : World) : Prop := ∃ A c, e = .returned (.slice A n c) ∧ IRow w' A (natI S) ∧ Below w.heap.size w w'
set_option maxHeartbeats 16000000 in
theorem told_any (l : List Nd) (A : Option Addr) (c : Nat) (hlen : l.length ≤ 536870912) (hok : ∀ n ∈ l, IntOk n) (w : World) (hrow : NRow w A l) :
    Calls Tryz.prog 42 #[.slice A l.length c] w (ToPost w (wys l l.length) l.length) := by
  have HOK := Lib.hid hok
  have hA : 0 < l.length → ∀ b o, A = some ⟨b, o, none⟩ → b < w.heap.size := fun hp b o e => by
    obtain ⟨b', o', h1, h2, _⟩ := hrow 0 hp
    rw [e] at h1; cases h1; exact h2
  have HA0 := Lib.hid hA
  have HR := Lib.hid hrow
  have hlenz : (l.length : Int) ≤ 536870912 := by omega
  clear hok hA hrow
  go_enter Tryz.func42, Tryz.ntmps42
  go_upto_region 1 with (fail)
  go_upto_region 2 with (refine wpList_make_int rfl _ _ rfl _ l.length rfl rfl (by omega) (by omega) ?_; intro w2 ho2 hb2; have HO2 := Lib.hid ho2; have HB2 := Lib.hid hb2; clear ho2 hb2)
  have hb3 := (Below.refl w2.heap.size w2).alloc (Nat.le_refl _) (.cells #[.slice (some ⟨w.heap.size, 0, none⟩) 0 l.length] 46)
  have HB3 := Lib.hid (HB2.out.trans (hb3.mono HB2.out.size))
  have HO3 := Lib.hid (HO2.out.later hb3)
  have HX3 := Lib.hid (Blk.new w2 #[.slice (some ⟨w.heap.size, 0, none⟩) 0 l.length] 46)
  have HL3 : Hid (w.heap.size ≤ w2.heap.size) := HB2.out.size
  clear hb3 HB2 HO2
  generalize w2.alloc (.cells #[.slice (some ⟨w.heap.size, 0, none⟩) 0 l.length] 46) = w3 at *
  generalize w2.heap.size = bw at *
  have HK := Lib.hid (nkinds_any bw w3)
  go_wp2_with fail
  refine HK.out.mono ?_; rintro e w4 ⟨m, bf, rfl, hm, hf, hb4⟩
  have HS0 : Hid (ToS w m bf bw A l [] (.slice (some ⟨w.heap.size, 0, none⟩) 0 l.length) w4) := ⟨HB3.out.trans (hb4.mono HB3.out.size), hm, hf, HX3.out.later hb4, HO3.out.later hb4, HR.out.later (HB3.out.trans (hb4.mono HB3.out.size)), HL3.out⟩
  clear hm hf hb4 HK HB3 HO3 HX3 HL3 HR
  go_wp2
  go_loopw [17] (ToL w m bf bw A l) (fun x _ => l.length - (intOf x).toNat)
  case atStart => exact ⟨0, _, Nat.zero_le _, rfl, HS0.out⟩
  case round =>
    obtain ⟨k, v, hk, rfl, hs⟩ := hrel
    have HS := Lib.hid hs
    clear hs HS0
    by_cases hlt : k < l.length
    · have hltz : (k : Int) < (l.length : Int) := by omega
      have HA := Lib.hid (HA0.out (by omega))
      obtain ⟨ba, oa, hAe, -, -⟩ := HS.out.row k hlt
      subst hAe
      have g : At10 wr ba (oa + k * 10) (l.getD k nd0) := HS.out.row.at hlt rfl
      have HM := Lib.hid (HOK.out (l.getD k nd0) (by rw [List.getD_eq_getElem?_getD, List.getElem?_eq_getElem hlt]; exact List.getElem_mem _))
      have HN : Hid (wys l (k + 1) = wys l k ++ [waysW (l.getD k nd0) (wys l k)]) := rfl
      have HL := Lib.hid (wys_le l k)
      have hkS : (wys l k).length = k := wys_length l k
      generalize wys l k = S at *
      generalize hnd : l.getD k nd0 = n at *
      clear hnd
      obtain ⟨a7, c7, hv7, hr7⟩ := HS.out.own.row
      rw [natI_length] at hv7
      subst hv7
      have HS1 : Hid ((natI S).length < 1073741824) := by unfold Hid; rw [natI_length, hkS]; omega
      have HKW : Hid (∀ w', ToS w m bf bw (some ⟨ba, oa, none⟩) l S (.slice a7 S.length c7) w' → IRow w' a7 (natI S) → KwS bf bw a7 c7 S w') := fun w' h hr => ⟨h.fn, h.box, hr⟩
      have HR7 := Lib.hid hr7
      clear hr7 hkS
      have HXN : Hid (∀ x, waysW n S = x → wys l (k + 1) = S ++ [x]) := fun x hx => by rw [HN.out, hx]
      have hb2 := (Below.refl wr.heap.size wr).alloc (Nat.le_refl _) (.cells (ndC n) 44)
      have HS2 := Lib.hid (HS.out.later hb2)
      have HR2 := Lib.hid (HR7.out.later hb2)
      have HB2 := Lib.hid (Blk.new wr (ndC n) 44)
      obtain ⟨hw, HW⟩ : ∃ hw, hw = Lib.hid (fun w' hm => way_at n HM.out m bf bw w' hm) := ⟨_, rfl⟩
      clear HW hb2 HR7 HS HM HN
      obtain ⟨kk, na, nb, nlo, nhi, ncls, ntext⟩ := n
      unfold At10 at g
      simp only at g
      obtain ⟨g0, g1, g2, g3, g4, g5, g6, g7, g8, g9⟩ := g
      unfold ndC at HS2 HR2 HB2
      simp only at HS2 HR2 HB2
      go_upto_region 6 with (fail)
      clear g0 g1 g2 g3 g4 g5 g6 g7 g8 g9
      generalize wr.alloc (.cells #[.int .i64 kk, .int .i64 na, .int .i64 nb, .int .i64 nlo, .int .i64 nhi, .int .u64 (wd ncls 0), .int .u64 (wd ncls 1), .int .u64 (wd ncls 2), .int .u64 (wd ncls 3), .string (bs ntext)] 44) = w3 at *
      generalize wr.heap.size = bx at *
      rcases hw.out w3 HS2.out.map with ⟨fK, bd, hlk, hentK, hcallK⟩ | ⟨hlk, hzero⟩
      · have HC := Lib.hid (hcallK a7 c7 S w3 HL.out (HKW.out w3 HS2.out HR2.out))
        clear hcallK
        unfold ndC at HC
        simp only at HC hlk
        have HN := Lib.hid (HXN.out _ rfl)
        generalize waysW ⟨kk, na, nb, nlo, nhi, ncls, ntext⟩ S = x at *
        have gg := HB2.out
        obtain ⟨g0, g1, g2, g3, g4, g5, g6, g7, g8, g9⟩ := ten_cells gg
        clear gg hw
        go_upto_region 9 with (fail)
        clear hlk
        go_wp2_with fail
        refine HC.out.mono ?_; rintro e w4 ⟨rfl, hb4⟩
        have HSN := Lib.hid (HS2.out.later hb4)
        clear hb4 g0 g1 g2 g3 g4 g5 g6 g7 g8 g9 HC
        have HX4 := Lib.hid (Blk.new w4 #[.int .i64 (x : Int)] 3)
        have HS4 := Lib.hid (HSN.out.later ((Below.refl _ _).alloc (Nat.le_refl _) (.cells #[.int .i64 (x : Int)] 3)))
        have b0 := HS4.out.box.cell 0
        simp at b0
        have hlow4 := HS4.out.bel.size
        have e0 := HSN.out.box.cell 0
        simp at e0
        go_wp2_with (at_builtin; refine wpList_append_int rfl _ _ rfl w.heap.size _ (natI S) rfl HS4.out.own _ (x : Int) rfl HX4.out HS1.out hlow4 ?_; intro v' w6 h1 h2 h3; rw [natI_snoc, ← HN.out] at h1; have HB6 := Lib.hid (HS4.out.box_gb h2); have HS6 := Lib.hid (HS4.out.step HA.out h2 h1); obtain ⟨av, cv, hvv, -⟩ := h1.row; subst hvv; have c0 := HB6.out.cell 0; have f0 := HB6.out.frozen 0; simp at c0; clear h1 h2 h3)
        go_roundw
        case rel => exact ⟨k + 1, _, by omega, by go_num, HS6.out⟩
        case measure => simp [intOf]; omega
      · have HN := Lib.hid (HXN.out 0 (hzero S))
        clear hzero
        simp only at hlk
        have HSN := HS2
        have gg := HB2.out
        obtain ⟨g0, g1, g2, g3, g4, g5, g6, g7, g8, g9⟩ := ten_cells gg
        clear gg hw
        go_upto_region 10 with (fail)
        clear hlk g0 g1 g2 g3 g4 g5 g6 g7 g8 g9
        have HXZ : Hid True := trivial
        obtain ⟨x, hx⟩ : ∃ x : Nat, x = 0 := ⟨0, rfl⟩
        rw [← hx] at HN
        have hxz : (0 : Int) = (x : Int) := by rw [hx]; rfl
        rw [hxz]
        clear hx
        have HX4 := Lib.hid (Blk.new w3 #[.int .i64 (x : Int)] 3)
        have HS4 := Lib.hid (HSN.out.later ((Below.refl _ _).alloc (Nat.le_refl _) (.cells #[.int .i64 (x : Int)] 3)))
        have b0 := HS4.out.box.cell 0
        simp at b0
        have hlow4 := HS4.out.bel.size
        have e0 := HSN.out.box.cell 0
        simp at e0
        go_wp2_with (at_builtin; refine wpList_append_int rfl _ _ rfl w.heap.size _ (natI S) rfl HS4.out.own _ (x : Int) rfl HX4.out HS1.out hlow4 ?_; intro v' w6 h1 h2 h3; rw [natI_snoc, ← HN.out] at h1; have HB6 := Lib.hid (HS4.out.box_gb h2); have HS6 := Lib.hid (HS4.out.step HA.out h2 h1); obtain ⟨av, cv, hvv, -⟩ := h1.row; subst hvv; have c0 := HB6.out.cell 0; have f0 := HB6.out.frozen 0; simp at c0; clear h1 h2 h3)
        go_roundw
        case rel => exact ⟨k + 1, _, by omega, by go_num, HS6.out⟩
        case measure => simp [intOf]; omega
    · obtain rfl : k = l.length := by omega
      have hlast : ¬ ((l.length : Nat) : Int) < (l.length : Int) := by omega
      have hlen1 : (natI (wys l l.length)).length = l.length := by rw [natI_length, wys_length]
      obtain ⟨a7, c7, hv7, hr7⟩ := HS.out.own.row
      rw [hlen1] at hv7
      subst hv7
      have e0 := HS.out.box.cell 0
      simp at e0
      have HR7 := Lib.hid hr7
      clear hr7 hlen1
      go_wp2
      go_ret
      exact ⟨_, _, rfl, HR7.out, HS.out.bel⟩
end Go.Proofs.YtcgjmnhmhiddkaaGreatDoor
namespace Go.Proofs.YtcgjmnhmhiddkaaGreatDoor
open Go Go.RowKit
set_option linter.unusedVariables false
set_option linter.unusedSimpArgs false
structure Sm (l : List Nd) : Prop where
  form : Form l
  len : l.length ≤ 4096
  txt : Txt l
theorem Form.at_ {l : List Nd} (h : Form l) {n : Nd} (hn : n ∈ l) : ∃ i, i < l.length ∧ atN l i = n := by
  obtain ⟨i, hi, rfl⟩ := List.mem_iff_getElem.1 hn
  exact ⟨i, hi, by unfold atN; rw [List.getD_eq_getElem?_getD, List.getElem?_eq_getElem hi]; rfl⟩
end Go.Proofs.YtcgjmnhmhiddkaaGreatDoor
