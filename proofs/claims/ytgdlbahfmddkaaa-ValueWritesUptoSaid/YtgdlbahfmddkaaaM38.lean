/- How many values there are: the program's walk. -/
import Derived.Test.YtgdlbahfmddkaaaM37
import Derived.Test.YtgdlbahfmddkaaaM30
namespace Go.Proofs.Ytgdlbahfmddkaaa
open Go Go.RowKit
set_option linter.unusedVariables false
set_option linter.unusedSimpArgs false
set_option maxRecDepth 100000

def todoC (l : List KR) : Nat := (l.map (fun k => cntVs k.s)).sum
theorem todoC_snoc (l : List KR) (k : KR) : todoC (l ++ [k]) = todoC l + cntVs k.s := by unfold todoC; simp
theorem snoc_of {α} (l : List α) (d : α) (h : 0 < l.length) : l = l.dropLast ++ [l.getD (l.length - 1) d] := by
  rcases List.eq_nil_or_concat l with rfl | ⟨L, b, rfl⟩
  · exact absurd h (Nat.lt_irrefl 0)
  · simp
def lenV : Value → Nat
  | .slice _ n _ => n
  | _ => 0
def MyL (w1 : World) (H tot : Nat) (x3 x4 : Value) (wr : World) : Prop :=
  ∃ (l : List KR) (m : Nat), x3 = .int .i64 (m : Int) ∧ OwnTd wr H x4 l ∧ (∀ k ∈ l, k.ok w1) ∧ m + todoC l = tot ∧ l.length ≤ m ∧ Below H w1 wr
def MzL (w1 : World) (H : Nat) (l0 : List KR) (ks : Vs) (x4 x31 : Value) (wr : World) : Prop :=
  ∃ (k : Nat) (l : List KR), k ≤ ks.len ∧ x31 = .int .i64 (k : Int) ∧ OwnTd wr H x4 l ∧ (∀ k ∈ l, k.ok w1) ∧ todoC l + k = todoC l0 + cntTo ks k ∧ l.length ≤ l0.length + k ∧ Below H w1 wr
theorem td_form {w : World} {H : Nat} {x : Value} {l : List KR} (h : OwnTd w H x l) : ∃ A c, x = .slice A l.length c ∧ l.length ≤ c := by
  obtain ⟨_, ⟨hv, hn⟩ | ⟨g, cap, cur, hv, hb, hg, h1, h2, h3, h4⟩⟩ := h
  · exact ⟨none, 0, by rw [hv, hn], by omega⟩
  · exact ⟨_, cap, hv, h1⟩
set_option maxHeartbeats 32000000 in
theorem many_c : ManyC := by
  intro v u w hcnt hu
  obtain ⟨B, cv, hcv, rfl, hkr⟩ := hu
  have hb1 := (Below.refl w.heap.size w).alloc (Nat.le_refl _) (.cells (vlC v B cv) 27)
  have HB1 := Lib.hid hb1
  have HX1 : Hid (Blk (w.alloc (.cells (vlC v B cv) 27)) w.heap.size (vlC v B cv) 27) := Blk.new _ _ _
  have HOK : Hid ((⟨v.kids, B, cv⟩ : KR).ok (w.alloc (.cells (vlC v B cv) 27))) := ⟨hcv, hkr.later hb1⟩
  have HT : Hid (1 + todoC [⟨v.kids, B, cv⟩] = cntV v) := by unfold Hid todoC cntV; simp
  generalize cntV v = tot at *
  clear hkr hb1
  obtain ⟨vk, vb, vt, vp, ks⟩ := v
  rw [vlC_five] at *
  simp only at *
  go_enter Try.func16, Try.ntmps16
  go_upto_region 1 with (fail)
  generalize w.alloc (.cells #[.int .i64 vk, .int .u8 ((vb.toNat : Nat) : Int), .string (bs vt), .int .i64 vp, .slice B ks.len cv] 27) = w1 at *
  obtain ⟨b0, b1, b2, b3, b4⟩ := vl_cells HX1.out
  have HS0 : Hid (MyL w1 w1.heap.size tot (.int .i64 ((1 : Nat) : Int)) (.slice (some ⟨w1.heap.size, 0, none⟩) 1 1) (w1.alloc (.cells #[.slice B ks.len cv] 25))) :=
    ⟨[⟨ks, B, cv⟩], 1, rfl, OwnTd.one ⟨ks, B, cv⟩, fun k hk => by rw [List.mem_singleton.1 hk]; exact HOK.out, HT.out, Nat.le_refl _, (Below.refl _ _).alloc (Nat.le_refl _) _⟩
  clear HX1 HOK HT
  go_wp2
  go_loopw [3, 4] (MyL w1 w1.heap.size tot) (fun x3 x4 _ => (tot - (intOf x3).toNat) + lenV x4)
  case atStart => exact HS0.out
  case round =>
    obtain ⟨l, m, rfl, hown, hok, htot, hlm, hbel⟩ := hrel
    have HBE := Lib.hid hbel
    have HTOT := Lib.hid htot
    clear HS0 b0 b1 b2 b3 b4
    by_cases hl : 0 < l.length
    · obtain ⟨g, cap, rfl, hc1, hc2, hglt, hcell, hrest⟩ := hown.last hl
      have hsn := snoc_of l kr0 hl
      have hkok := hok (l.getD (l.length - 1) kr0) (by rw [List.getD_eq_getElem?_getD, List.getElem?_eq_getElem (by omega)]; exact List.getElem_mem _)
      have hld : l.dropLast.length + 1 = l.length := by rw [List.length_dropLast]; omega
      have hdk : ∀ k ∈ l.dropLast, k.ok w1 := fun k hk => hok k (List.dropLast_subset l hk)
      have htd : todoC l = todoC l.dropLast + cntVs (l.getD (l.length - 1) kr0).s := by conv => lhs; rw [hsn]; rw [todoC_snoc]
      generalize l.getD (l.length - 1) kr0 = kr at *
      generalize l.dropLast = l0 at *
      obtain ⟨ks2, A2, c2⟩ := kr
      have HKO := Lib.hid hkok
      have HD := Lib.hid hdk
      unfold KR.cell at hcell
      simp only at hcell htd
      have hks : ks2.len ≤ cntVs ks2 := cntVs_len ks2
      obtain ⟨n, hn⟩ : ∃ n, l.length = n + 1 := ⟨l.length - 1, by omega⟩
      rw [hn] at hcell hrest hc1 hlm hld ⊢
      rw [Nat.add_sub_cancel] at hcell hrest
      have HR0 := Lib.hid hrest
      have hnb : (n : Int) ≤ 100000000 := by have := HTOT.out; omega
      have hnc : (n : Int) ≤ (cap : Int) := by omega
      have hncn : n ≤ cap := by omega
      clear hown hok hsn hrest hkok hdk
      have HMB : Hid (m + ks2.len ≤ 100000000) := by unfold Hid; omega
      have hmb : (m : Int) + (ks2.len : Int) ≤ 100000000 := by omega
      have HM2 : Hid ((m + ks2.len) + todoC l0 + (cntVs ks2 - ks2.len) = tot) := by unfold Hid; omega
      have HLL : Hid (l0.length + 1 ≤ m) := by unfold Hid; omega
      have HLN : Hid (l0.length = n) := by unfold Hid; omega
      have HLE := Lib.hid hks
      have HS1 : Hid (MzL w1 w1.heap.size l0 ks2 (.slice (some ⟨g, 0, none⟩) n cap) (.int .i64 ((0 : Nat) : Int)) wr) := ⟨0, l0, Nat.zero_le _, rfl, HR0.out, HD.out, by rw [cntTo_zero], by omega, HBE.out⟩
      have HNM : Hid (n + 1 ≤ m) := hlm
      clear HR0 HD HBE HTOT htot hlm htd hks hld hbel
      go_wp2
      go_loopw [4, 31] (MzL w1 w1.heap.size l0 ks2) (fun _ x _ => ks2.len - (intOf x).toNat)
      case atStart => exact HS1.out
      case round =>
        obtain ⟨k, L, hk, rfl, hown, hok, htd, hll, hbel⟩ := hrel
        have HO := Lib.hid hown
        have HK := Lib.hid hok
        have HBE := Lib.hid hbel
        have HTD := Lib.hid htd
        obtain ⟨xA, xc, hxv, hxc⟩ := td_form hown
        subst hxv
        have hLb : L.length ≤ 100000001 := by have := HMB.out; have := HLL.out; have := HNM.out; omega
        clear hown hok hbel HS1 hcell htd
        by_cases hlt : k < ks2.len
        · have hltz : (k : Int) < (ks2.len : Int) := by omega
          obtain ⟨g2, o2, rfl, hg2, Y, cy, q0, hcl, q6⟩ := VRow.at_ HKO.out.2 hlt
          have hct := cntTo_succ hlt
          rw [Nat.zero_add] at hcl
          have hcell2 : ∀ j, j < 5 → wr.cell? ⟨g2, o2 + k * 5 + j, none⟩ = (vlC (ks2.at k) Y cy)[j]? := fun j hj => (HBE.out.cell (p := ⟨g2, o2 + k * 5 + j, none⟩) hg2).trans (hcl j hj)
          have hcy : cntV (ks2.at k) = 1 + cntVs (ks2.at k).kids := rfl
          have hys : (ks2.at k).kids.len = 0 → cntVs (ks2.at k).kids = 0 := fun h => by
            generalize (ks2.at k).kids = z at *
            cases z with
            | nil => rfl
            | cons a b c d e f => rw [Vs.len_cons] at h; omega
          generalize ks2.at k = y at *
          obtain ⟨yk, yb, yt, yp, ys⟩ := y
          rw [vlC_five] at *
          simp only at q0 q6 hcy hys
          have q1 := hcell2 0 (by decide)
          have q2 := hcell2 1 (by decide)
          have q3 := hcell2 2 (by decide)
          have q4 := hcell2 3 (by decide)
          have q5 := hcell2 4 (by decide)
          simp at q1 q2 q3 q4 q5
          have HCT : Hid (cntTo ks2 (k + 1) = cntTo ks2 k + 1 + cntVs ys) := by unfold Hid; omega
          have HQ : Hid ((⟨ys, Y, cy⟩ : KR).ok w1) := ⟨q0, q6⟩
          clear hcell2 hcl hct hcy q6
          have HBX : Hid (Below wr.heap.size wr (wr.alloc (.cells #[.int .i64 yk, .int .u8 ((yb.toNat : Nat) : Int), .string (bs yt), .int .i64 yp, .slice Y ys.len cy] 27))) := (Below.refl _ _).alloc (Nat.le_refl _) _
          by_cases hy : 0 < ys.len
          · have hyz : (0 : Int) < (ys.len : Int) := by omega
            clear hys
            have HBY : Hid (Below wr.heap.size wr ((wr.alloc (.cells #[.int .i64 yk, .int .u8 ((yb.toNat : Nat) : Int), .string (bs yt), .int .i64 yp, .slice Y ys.len cy] 27)).alloc (.cells #[.slice Y ys.len cy] 25))) := HBX.out.alloc (by simp) _
            have HNW : Hid (Blk ((wr.alloc (.cells #[.int .i64 yk, .int .u8 ((yb.toNat : Nat) : Int), .string (bs yt), .int .i64 yp, .slice Y ys.len cy] 27)).alloc (.cells #[.slice Y ys.len cy] 25)) (wr.heap.size + 1) #[(⟨ys, Y, cy⟩ : KR).cell] 25) := Blk.new' (by simp) _ _
            have HLO : Hid (w1.heap.size ≤ ((wr.alloc (.cells #[.int .i64 yk, .int .u8 ((yb.toNat : Nat) : Int), .string (bs yt), .int .i64 yp, .slice Y ys.len cy] 27)).alloc (.cells #[.slice Y ys.len cy] 25)).heap.size) := Nat.le_trans HBE.out.size HBY.out.size
            go_wp2_with (at_builtin; refine wpList_append_k rfl _ _ rfl w1.heap.size (.slice xA L.length xc) L rfl (HO.out.later HBY.out) (wr.heap.size + 1) ⟨ys, Y, cy⟩ rfl HNW.out (by omega) HLO.out ?_; intro v6 w6 h1 h2; have HO6 := Lib.hid h1; have HB6 := Lib.hid ((HBE.out.trans (HBY.out.mono HBE.out.size)).grown h2 HLO.out (fun k hk => (World.ownsRow.lt (HO.out.later HBY.out) k hk).1)); clear h1 h2)
            go_wp2
            go_roundw
            case rel => exact ⟨k + 1, L ++ [⟨ys, Y, cy⟩], by omega, by go_num, HO6.out, fun q hq => by
              rcases List.mem_append.1 hq with e | e
              · exact HK.out q e
              · rw [List.mem_singleton.1 e]; exact HQ.out, by rw [todoC_snoc, HCT.out]; have := HTD.out; simp only; omega, by rw [List.length_append]; simp; omega, HB6.out⟩
            case measure => simp [intOf]; omega
          · have hyz : ¬ (0 : Int) < (ys.len : Int) := by omega
            have hy0 := hys (by omega)
            clear hys
            go_wp2
            go_roundw
            case rel => exact ⟨k + 1, L, by omega, by go_num, HO.out.later HBX.out, HK.out, by rw [HCT.out]; have := HTD.out; omega, by omega, HBE.out.trans (HBX.out.mono HBE.out.size)⟩
            case measure => simp [intOf]; omega
        · obtain rfl : k = ks2.len := by omega
          have hlast : ¬ ((ks2.len : Nat) : Int) < (ks2.len : Int) := by omega
          have hall : cntTo ks2 ks2.len = cntVs ks2 := cntTo_all ks2
          have HE : Hid (MyL w1 w1.heap.size tot (.int .i64 ((m : Int) + (ks2.len : Int))) (.slice xA L.length xc) wr) :=
            ⟨L, m + ks2.len, by rw [Int.natCast_add], HO.out, HK.out, by have := HTD.out; have := HM2.out; have := HLE.out; omega, by have := HLL.out; omega, HBE.out⟩
          have HME : Hid ((tot - ((m : Int) + (ks2.len : Int)).toNat) + L.length < (tot - ((m : Int)).toNat) + (n + 1)) := by
            unfold Hid
            have h1 := HTD.out
            have h2 := HM2.out
            have h3 := HLE.out
            have h4 := HNM.out
            have h5 := HLN.out
            omega
          clear HO HK HBE HTD
          go_wp2
          go_roundw
          case rel => exact HE.out
          case measure => simp only [intOf, lenV]; exact HME.out
    · have hl0 : l = [] := List.length_eq_zero_iff.1 (by omega)
      obtain ⟨xA, xc, rfl, -⟩ := td_form hown
      subst hl0
      have htm : m = tot := by have := HTOT.out; unfold todoC at this; simpa using this
      clear hown hok htot
      subst htm
      go_wp2
      go_ret
      exact ⟨rfl, HB1.out.trans (HBE.out.mono HB1.out.size)⟩
end Go.Proofs.Ytgdlbahfmddkaaa
/- Are two values the same: the program's walk. -/
namespace Go.Proofs.Ytgdlbahfmddkaaa
open Go Go.RowKit
set_option linter.unusedVariables false
set_option linter.unusedSimpArgs false
set_option maxRecDepth 100000

theorem least_of {P : Nat → Prop} (h : ∃ n, P n) : ∃ n, P n ∧ ∀ m, P m → n ≤ m := by
  obtain ⟨n, hn⟩ := h
  induction n using Nat.strongRecOn with
  | ind n ih =>
    by_cases hm : ∃ m, m < n ∧ P m
    · obtain ⟨m, h1, h2⟩ := hm
      exact ih m h1 h2
    · refine ⟨n, hn, fun m h => ?_⟩
      rcases Nat.lt_or_ge m n with e | e
      · exact absurd ⟨m, e, h⟩ hm
      · exact e
/-- The least number of which something holds. -/
noncomputable def msr (P : Nat → Prop) : Nat := by classical exact if h : ∃ n, P n then Classical.choose (least_of h) else 0
theorem msr_spec {P : Nat → Prop} (h : ∃ n, P n) : P (msr P) := by
  unfold msr; simp only [h, dite_true]; exact (Classical.choose_spec (least_of h)).1
theorem msr_le {P : Nat → Prop} {n : Nat} (h : P n) : msr P ≤ n := by
  have hh : ∃ n, P n := ⟨n, h⟩
  unfold msr; simp only [hh, dite_true]; exact (Classical.choose_spec (least_of hh)).2 n h
/-- How much is left. -/
def todoP (l : List (KR × KR)) : Nat := (l.map (fun p => cntVs p.1.s + 1)).sum
theorem todoP_snoc (l : List (KR × KR)) (p : KR × KR) : todoP (l ++ [p]) = todoP l + (cntVs p.1.s + 1) := by unfold todoP; simp
theorem todoP_len (l : List (KR × KR)) : l.length ≤ todoP l := by
  induction l with
  | nil => exact Nat.zero_le _
  | cons p l ih =>
    have : todoP (p :: l) = (cntVs p.1.s + 1) + todoP l := by unfold todoP; simp
    rw [this, List.length_cons]; omega
def eqP (l : List (KR × KR)) : Prop := ∀ p ∈ l, p.1.s = p.2.s
theorem eqP_snoc (l : List (KR × KR)) (p : KR × KR) : eqP (l ++ [p]) ↔ eqP l ∧ p.1.s = p.2.s := by
  constructor
  · exact fun h => ⟨fun q hq => h q (List.mem_append_left _ hq), h p (by simp)⟩
  · rintro ⟨h1, h2⟩ q hq
    rcases List.mem_append.1 hq with e | e
    · exact h1 q e
    · rw [List.mem_singleton.1 e]; exact h2
def okP (w : World) (l : List (KR × KR)) : Prop := ∀ p ∈ l, p.1.ok w ∧ p.2.ok w
theorem okP_snoc {w : World} {l : List (KR × KR)} {p : KR × KR} (h : okP w l) (h1 : p.1.ok w) (h2 : p.2.ok w) : okP w (l ++ [p]) := fun q hq => by
  rcases List.mem_append.1 hq with e | e
  · exact h q e
  · rw [List.mem_singleton.1 e]; exact ⟨h1, h2⟩
theorem Vs.nil_of {s : Vs} (h : s.len = 0) : s = .nil := by
  cases s with
  | nil => rfl
  | cons k b t p ks r => rw [Vs.len_cons] at h; omega
/-- Lists that are alike are the same just if all Kids are. -/
theorem alike_kids {x y : Vs} (h : alikeL x y) : x = y ↔ ∀ j, j < x.len → (x.at j).kids = (y.at j).kids := by
  constructor
  · exact fun e j _ => by rw [e]
  · refine fun hk => Vs.ext_at h.1 (fun j hj => ?_)
    obtain ⟨h1, h2, h3, h4, -⟩ := h.2 j hj
    have h5 := hk j hj
    generalize x.at j = a at *
    generalize y.at j = b at *
    obtain ⟨a1, a2, a3, a4, a5⟩ := a
    obtain ⟨b1, b2, b3, b4, b5⟩ := b
    simp only at *
    subst h1; subst h2; subst h3; subst h4; subst h5; rfl
theorem alike_not {x y : Vs} (h : ¬ alikeL x y) : x ≠ y := fun e => h (by
  subst e
  exact ⟨rfl, fun j _ => ⟨rfl, rfl, rfl, rfl, rfl⟩⟩)
/-- What is still to be compared. -/
def SoP (w1 : World) (H : Nat) (E : Prop) (x5 : Value) (wr : World) (n : Nat) : Prop := ∃ l : List (KR × KR), OwnPr wr H x5 l ∧ okP w1 l ∧ (E ↔ eqP l) ∧ todoP l = n ∧ n ≤ 100000001 ∧ Below H w1 wr
def SoL (w1 : World) (H : Nat) (E : Prop) (x5 : Value) (wr : World) : Prop := ∃ n, SoP w1 H E x5 wr n
/-- The round's own loop: k Kids are seen to. -/
def SiL (w1 : World) (H : Nat) (E : Prop) (l0 : List (KR × KR)) (X Y : KR) (bx : Nat) (x5 x38 : Value) (wr : World) : Prop :=
  ∃ (k : Nat) (l : List (KR × KR)), k ≤ X.s.len ∧ x38 = .int .i64 (k : Int) ∧ OwnPr wr H x5 l ∧ okP w1 l ∧ (E ↔ eqP l ∧ ∀ j, k ≤ j → j < X.s.len → (X.s.at j).kids = (Y.s.at j).kids) ∧ todoP l ≤ todoP l0 + cntTo X.s k ∧ Below H w1 wr ∧ Blk wr bx #[X.cell, Y.cell] 59 ∧ x5.ownBlock ≠ some bx
theorem split_at_k {P : Nat → Prop} {k n : Nat} (hk : k < n) : (∀ j, k ≤ j → j < n → P j) ↔ P k ∧ ∀ j, k + 1 ≤ j → j < n → P j := by
  constructor
  · exact fun h => ⟨h k (Nat.le_refl _) hk, fun j h1 h2 => h j (by omega) h2⟩
  · rintro ⟨h1, h2⟩ j h3 h4
    rcases (by omega : j = k ∨ k + 1 ≤ j) with e | e
    · rw [e]; exact h1
    · exact h2 j e h4
theorem blk_gb {w w' : World} {b : Nat} {vs : Array Value} {t : TypeId} {ro : Option Nat} (h : Blk w b vs t) (hne : ro ≠ some b) (hg : w.grownBy w' ro) : Blk w' b vs t := (hg.block b h.lt (fun e => hne e.symm)).trans h
/-- A round's memory: the pair at hand, the Kid at hand. -/
structure SqS (w0 : World) (X Y : KR) (bx : Nat) (y : Vl) (Yk : Option Addr) (cy : Nat) (g o : Nat) (z : Vl) (Z : Option Addr) (cz : Nat) (by8 : Nat) (w : World) : Prop where
  bel : Below w0.heap.size w0 w
  pr : Blk w bx #[X.cell, Y.cell] 59
  kd : Blk w by8 (vlC y Yk cy) 27
  ot : ElS g o z Z cz w
theorem SqS.later {w0 w w' : World} {X Y : KR} {bx : Nat} {y : Vl} {Yk : Option Addr} {cy g o : Nat} {z : Vl} {Z : Option Addr} {cz by8 : Nat} (h : SqS w0 X Y bx y Yk cy g o z Z cz by8 w) (hb : Below w.heap.size w w') : SqS w0 X Y bx y Yk cy g o z Z cz by8 w' :=
  ⟨h.bel.trans (hb.mono h.bel.size), h.pr.later hb, h.kd.later hb, h.ot.later hb⟩
def NewPr (a b : Value) (v : Value) (w : World) : Prop := ∃ g, v = .slice (some ⟨g, 0, none⟩) 1 1 ∧ Blk w g #[a, b] 59
theorem NewPr.later (a b : Value) : ∀ v w w', NewPr a b v w → Below w.heap.size w w' → NewPr a b v w' := fun v w w' h hb => by
  obtain ⟨g, h1, h2⟩ := h
  exact ⟨g, h1, h2.later hb⟩
theorem pr_form {w : World} {H : Nat} {x : Value} {l : List (KR × KR)} (h : OwnPr w H x l) : ∃ A c, x = .slice A l.length c ∧ l.length ≤ c := by
  obtain ⟨_, ⟨hv, hn⟩ | ⟨g, cap, cur, hv, hb, hg, h1, h2, h3, h4⟩⟩ := h
  · exact ⟨none, 0, by rw [hv, hn], by omega⟩
  · exact ⟨_, cap, hv, h1⟩
theorem one_row {w : World} {g : Nat} {v : Vl} {B : Option Addr} {c : Nat} (h : Blk w g (vlC v B c) 27) (hc : v.kids.len ≤ c) (hr : VRow w B 0 v.kids) : (⟨Vs.of [v], some ⟨g, 0, none⟩, 1⟩ : KR).ok w :=
  ⟨Nat.le_refl _, VRow.of h.lt (fun j hj => by
    obtain rfl : j = 0 := by simpa [Vs.len, Vs.list_of] using hj
    exact ⟨B, c, hc, fun q hq => by simp only [Nat.zero_add, Nat.zero_mul]; exact h.cell q, hr⟩)⟩
set_option maxHeartbeats 32000000 in
theorem same_c : SameC := by
  intro a b u v w hca hcb hua hvb
  obtain ⟨A, ca, hcca, rfl, hra⟩ := hua
  obtain ⟨B, cb, hccb, rfl, hrb⟩ := hvb
  have hb1 := ((Below.refl w.heap.size w).alloc (Nat.le_refl _) (.cells (vlC a A ca) 27)).alloc (by simp) (.cells (vlC b B cb) 27)
  have HB1 := Lib.hid hb1
  have HXA : Hid (Blk ((w.alloc (.cells (vlC a A ca) 27)).alloc (.cells (vlC b B cb) 27)) w.heap.size (vlC a A ca) 27) := (Blk.new _ _ _).alloc _
  have HXB : Hid (Blk ((w.alloc (.cells (vlC a A ca) 27)).alloc (.cells (vlC b B cb) 27)) (w.heap.size + 1) (vlC b B cb) 27) := Blk.new' (by simp) _ _
  have HRA := Lib.hid (hra.later hb1)
  have HRB := Lib.hid (hrb.later hb1)
  have HAB : Hid (∀ A B, (a = b ↔ eqP [(⟨Vs.of [a], A, 1⟩, ⟨Vs.of [b], B, 1⟩)])) := fun A B => by
    unfold eqP
    constructor
    · intro h p hp
      rw [List.mem_singleton.1 hp, h]
    · intro h
      have h1 : Vs.of [a] = Vs.of [b] := h _ (List.mem_singleton.2 rfl)
      have h2 := congrArg Vs.list h1
      rw [Vs.list_of, Vs.list_of] at h2
      simpa using h2
  have HTD : Hid (∀ A B, todoP [(⟨Vs.of [a], A, 1⟩, ⟨Vs.of [b], B, 1⟩)] = cntV a + 1) := fun A B => by
    unfold todoP
    simp only [List.map_cons, List.map_nil, List.sum_cons, List.sum_nil]
    show cntVs (Vs.cons _ _ _ _ _ _) + 1 + 0 = _
    rw [cntVs, Vs.of, cntVs]; unfold cntV; omega
  have HT : Hid (a = b → sameV a b = true) := fun h => sameV_t h
  have HF : Hid (¬ (a = b) → sameV a b = false) := fun h => sameV_f h
  have HCA : Hid (cntV a ≤ 100000000) := hca
  have hl1 : (Vs.of [a]).len = 1 := rfl
  have hl2 : (Vs.of [b]).len = 1 := rfl
  generalize sameV a b = r at *
  have hOA : ∀ (w' : World) (g : Nat), Blk w' g (vlC a A ca) 27 → VRow w' A 0 a.kids → (⟨Vs.of [a], some ⟨g, 0, none⟩, 1⟩ : KR).ok w' := fun w' g h1 h2 => one_row h1 hcca h2
  have hOB : ∀ (w' : World) (g : Nat), Blk w' g (vlC b B cb) 27 → VRow w' B 0 b.kids → (⟨Vs.of [b], some ⟨g, 0, none⟩, 1⟩ : KR).ok w' := fun w' g h1 h2 => one_row h1 hccb h2
  have HOA := Lib.hid hOA
  have HOB := Lib.hid hOB
  obtain ⟨va, hva⟩ : ∃ s, s = Vs.of [a] := ⟨_, rfl⟩
  obtain ⟨vb, hvb⟩ : ∃ s, s = Vs.of [b] := ⟨_, rfl⟩
  rw [← hva] at hl1 HOA HAB HTD
  rw [← hvb] at hl2 HOB HAB HTD
  generalize (a = b) = E at *
  generalize cntV a = na at *
  clear hra hrb hb1 hOA hOB hva hvb hca hcb
  obtain ⟨ak, ab, at_, ap, as1⟩ := a
  obtain ⟨bk, bb, bt, bp, bs1⟩ := b
  simp only [vlC_five] at *
  go_enter Try.func14, Try.ntmps14
  go_upto_region 1 with (fail)
  generalize (w.alloc (.cells #[.int .i64 ak, .int .u8 ((ab.toNat : Nat) : Int), .string (bs at_), .int .i64 ap, .slice A as1.len ca] 27)).alloc (.cells #[.int .i64 bk, .int .u8 ((bb.toNat : Nat) : Int), .string (bs bt), .int .i64 bp, .slice B bs1.len cb] 27) = wb at *
  obtain ⟨a0, a1, a2, a3, a4⟩ := vl_cells HXA.out
  obtain ⟨b0, b1, b2, b3, b4⟩ := vl_cells (HXB.out.alloc (.cells #[.int .i64 ak, .int .u8 ((ab.toNat : Nat) : Int), .string (bs at_), .int .i64 ap, .slice A as1.len ca] 27))
  have hbc := ((Below.refl wb.heap.size wb).alloc (Nat.le_refl _) (.cells #[.int .i64 ak, .int .u8 ((ab.toNat : Nat) : Int), .string (bs at_), .int .i64 ap, .slice A as1.len ca] 27)).alloc (by simp) (.cells #[.int .i64 bk, .int .u8 ((bb.toNat : Nat) : Int), .string (bs bt), .int .i64 bp, .slice B bs1.len cb] 27)
  have HBC := Lib.hid hbc
  have hxa := HOA.out ((wb.alloc (.cells #[.int .i64 ak, .int .u8 ((ab.toNat : Nat) : Int), .string (bs at_), .int .i64 ap, .slice A as1.len ca] 27)).alloc (.cells #[.int .i64 bk, .int .u8 ((bb.toNat : Nat) : Int), .string (bs bt), .int .i64 bp, .slice B bs1.len cb] 27)) wb.heap.size ((Blk.new _ _ _).alloc _) (HRA.out.later hbc)
  have hxb := HOB.out ((wb.alloc (.cells #[.int .i64 ak, .int .u8 ((ab.toNat : Nat) : Int), .string (bs at_), .int .i64 ap, .slice A as1.len ca] 27)).alloc (.cells #[.int .i64 bk, .int .u8 ((bb.toNat : Nat) : Int), .string (bs bt), .int .i64 bp, .slice B bs1.len cb] 27)) (wb.heap.size + 1) (Blk.new' (by simp) _ _) (HRB.out.later hbc)
  have hone := OwnPr.one (w := (wb.alloc (.cells #[.int .i64 ak, .int .u8 ((ab.toNat : Nat) : Int), .string (bs at_), .int .i64 ap, .slice A as1.len ca] 27)).alloc (.cells #[.int .i64 bk, .int .u8 ((bb.toNat : Nat) : Int), .string (bs bt), .int .i64 bp, .slice B bs1.len cb] 27)) (⟨va, some ⟨wb.heap.size, 0, none⟩, 1⟩, ⟨vb, some ⟨wb.heap.size + 1, 0, none⟩, 1⟩)
  unfold KR.cell at hone
  simp only [hl1, hl2] at hone
  have hsz : ((wb.alloc (.cells #[.int .i64 ak, .int .u8 ((ab.toNat : Nat) : Int), .string (bs at_), .int .i64 ap, .slice A as1.len ca] 27)).alloc (.cells #[.int .i64 bk, .int .u8 ((bb.toNat : Nat) : Int), .string (bs bt), .int .i64 bp, .slice B bs1.len cb] 27)).heap.size = wb.heap.size + 2 := by simp
  have HS0 : Hid (SoL ((wb.alloc (.cells #[.int .i64 ak, .int .u8 ((ab.toNat : Nat) : Int), .string (bs at_), .int .i64 ap, .slice A as1.len ca] 27)).alloc (.cells #[.int .i64 bk, .int .u8 ((bb.toNat : Nat) : Int), .string (bs bt), .int .i64 bp, .slice B bs1.len cb] 27)) ((wb.alloc (.cells #[.int .i64 ak, .int .u8 ((ab.toNat : Nat) : Int), .string (bs at_), .int .i64 ap, .slice A as1.len ca] 27)).alloc (.cells #[.int .i64 bk, .int .u8 ((bb.toNat : Nat) : Int), .string (bs bt), .int .i64 bp, .slice B bs1.len cb] 27)).heap.size E (.slice (some ⟨wb.heap.size + 2, 0, none⟩) 1 1) (((wb.alloc (.cells #[.int .i64 ak, .int .u8 ((ab.toNat : Nat) : Int), .string (bs at_), .int .i64 ap, .slice A as1.len ca] 27)).alloc (.cells #[.int .i64 bk, .int .u8 ((bb.toNat : Nat) : Int), .string (bs bt), .int .i64 bp, .slice B bs1.len cb] 27)).alloc (.cells #[.slice (some ⟨wb.heap.size, 0, none⟩) 1 1, .slice (some ⟨wb.heap.size + 1, 0, none⟩) 1 1] 59))) :=
    ⟨na + 1, _, by rw [← hsz]; exact hone, fun p hp => by rw [List.mem_singleton.1 hp]; exact ⟨hxa, hxb⟩, HAB.out _ _, HTD.out _ _, by have := HCA.out; omega, (Below.refl _ _).alloc (Nat.le_refl _) _⟩
  clear hbc hxa hxb hone hsz HOA HOB HRA HRB HXA HXB HAB HTD HCA
  go_wp2
  generalize (wb.alloc (.cells #[.int .i64 ak, .int .u8 ((ab.toNat : Nat) : Int), .string (bs at_), .int .i64 ap, .slice A as1.len ca] 27)).alloc (.cells #[.int .i64 bk, .int .u8 ((bb.toNat : Nat) : Int), .string (bs bt), .int .i64 bp, .slice B bs1.len cb] 27) = w1 at *
  go_loopw [5] (SoL w1 w1.heap.size E) (fun x wr => msr (SoP w1 w1.heap.size E x wr))
  case atStart => exact HS0.out
  case round =>
    have hsp := msr_spec hrel
    obtain ⟨N, hN⟩ : ∃ N, N = msr (SoP w1 w1.heap.size E u5 wr) := ⟨_, rfl⟩
    rw [← hN] at hsp
    have HMS := Lib.hid hN
    clear hN hrel HS0 a0 a1 a2 a3 a4 b0 b1 b2 b3 b4
    obtain ⟨l, hown, hok, hE, htd, hNb, hbel⟩ := hsp
    have HOK := Lib.hid hok
    have HEQ := Lib.hid hE
    have HBE := Lib.hid hbel
    clear hok hE hbel
    by_cases hl : 0 < l.length
    · obtain ⟨g, cap, rfl, hc1, hc2, hglt, hcx, hcy, hrest⟩ := hown.last hl
      have hsn := snoc_of l pr0 hl
      have hpo := HOK.out (l.getD (l.length - 1) pr0) (by rw [List.getD_eq_getElem?_getD, List.getElem?_eq_getElem (by omega)]; exact List.getElem_mem _)
      have hdk : okP w1 l.dropLast := fun k hk => HOK.out k (List.dropLast_subset l hk)
      have htp : todoP l = todoP l.dropLast + (cntVs (l.getD (l.length - 1) pr0).1.s + 1) := by conv => lhs; rw [hsn]; rw [todoP_snoc]
      have heq : E ↔ eqP l.dropLast ∧ (l.getD (l.length - 1) pr0).1.s = (l.getD (l.length - 1) pr0).2.s := by
        have h1 := HEQ.out
        rw [hsn, eqP_snoc] at h1
        exact h1
      have hll := todoP_len l
      generalize l.getD (l.length - 1) pr0 = p at *
      have hld : l.dropLast.length = l.length - 1 := List.length_dropLast
      generalize l.dropLast = l0 at *
      obtain ⟨n, hn⟩ : ∃ n, l.length = n + 1 := ⟨l.length - 1, by omega⟩
      have HMS2 : Hid (N = msr (SoP w1 w1.heap.size E (.slice (some ⟨g, 0, none⟩) (n + 1) cap) wr)) := by have := HMS.out; rw [hn] at this; exact this
      clear HMS
      rw [hn] at hcx hcy hrest hc1 hld hll ⊢
      rw [Nat.add_sub_cancel] at hcx hcy hrest hld
      have HR0 := Lib.hid hrest
      obtain ⟨X, Y⟩ := p
      have HX := Lib.hid hpo.1
      have HY := Lib.hid hpo.2
      have HD := Lib.hid hdk
      have HEQ0 := Lib.hid heq
      have hxl : X.s.len ≤ 1073741824 := by have := cntVs_len X.s; simp only at htp; omega
      have HTP : Hid (todoP l0 + (cntVs X.s + 1) = N) := by unfold Hid; rw [← htd, htp]
      have hnb : (n : Int) ≤ 100000001 := by omega
      have hnc : (n : Int) ≤ (cap : Int) := by omega
      have hncn : n ≤ cap := by omega
      simp only at hcx hcy
      clear hown hsn hrest hpo hdk htp heq hll hn HOK HEQ htd hl
      obtain ⟨xs, XA, xc⟩ := X
      obtain ⟨ys, YA, yc⟩ := Y
      unfold KR.cell at hcx hcy
      simp only at hcx hcy hxl HTP HEQ0
      have hent := enters_of Try.func28 (by kernel_rfl) rfl
      have HEF : Hid (∀ w', Below w1.heap.size w1 w' → Calls Try.prog 27 #[.slice XA xs.len xc, .slice YA ys.len yc, .func (.func 28) #[] #[]] w' (Ans w' (.bool (alikeB xs ys)))) :=
        fun w' h => equalfunc_any xs ys XA YA xc yc hxl w' (HX.out.2.later h) (HY.out.2.later h)
      have hba := (Below.refl wr.heap.size wr).alloc (Nat.le_refl _) (.cells #[.slice XA xs.len xc, .slice YA ys.len yc] 59)
      have HBA := Lib.hid hba
      have HPB : Hid (Blk (wr.alloc (.cells #[.slice XA xs.len xc, .slice YA ys.len yc] 59)) wr.heap.size #[.slice XA xs.len xc, .slice YA ys.len yc] 59) := Blk.new _ _ _
      have e0 := HPB.out.cell 0
      have e1 := HPB.out.cell 1
      simp at e0 e1
      clear hba
      go_wp2_with fail
      refine (HEF.out _ (HBE.out.trans (HBA.out.mono HBE.out.size))).mono ?_; rintro e w2 ⟨rfl, hb⟩
      have HB2 := Lib.hid (HBA.out.trans (hb.mono HBA.out.size))
      have HP2 := Lib.hid (HPB.out.later hb)
      clear hb HEF HPB HBA hcx hcy e0 e1
      have HBX : Hid (g < wr.heap.size) := hglt
      by_cases hal : alikeL xs ys
      · have hab : alikeB xs ys = true := alikeB_t hal
        have HAL := Lib.hid hal
        have HS2 : Hid (SiL w1 w1.heap.size E l0 ⟨xs, XA, xc⟩ ⟨ys, YA, yc⟩ wr.heap.size (.slice (some ⟨g, 0, none⟩) n cap) (.int .i64 ((0 : Nat) : Int)) w2) :=
          ⟨0, l0, Nat.zero_le _, rfl, HR0.out.later HB2.out, HD.out, by
            rw [HEQ0.out, alike_kids hal]
            exact ⟨fun h => ⟨h.1, fun j _ hj => h.2 j hj⟩, fun h => ⟨h.1, fun j hj => h.2 j (Nat.zero_le _) hj⟩⟩, by rw [cntTo_zero]; exact Nat.le_refl _, HBE.out.trans (HB2.out.mono HBE.out.size), HP2.out, fun e => by
            have e : g = wr.heap.size := Option.some.inj e
            have := HBX.out
            omega⟩
        have e0 := HP2.out.cell 0
        have e1 := HP2.out.cell 1
        simp at e0 e1
        clear hal HR0 HD HEQ0 HB2 HBE HP2 HBX hglt
        generalize wr.heap.size = bx at *
        go_wp2
        go_loopw [5, 38] (SiL w1 w1.heap.size E l0 ⟨xs, XA, xc⟩ ⟨ys, YA, yc⟩ bx) (fun _ x _ => xs.len - (intOf x).toNat)
        case atStart => exact HS2.out
        case round =>
          obtain ⟨k, L, hk, rfl, hown, hok, hE, htl, hbel, hpb, hne⟩ := hrel
          have HO := Lib.hid hown
          have HK := Lib.hid hok
          have HE := Lib.hid hE
          have HBE := Lib.hid hbel
          have HPB := Lib.hid hpb
          have HTL := Lib.hid htl
          have HNE := Lib.hid hne
          obtain ⟨lA, lc, hxv, hxc⟩ := pr_form hown
          subst hxv
          have hLb : L.length ≤ 100000001 := by have h1 := todoP_len L; have h2 := cntTo_le xs k; have := HTP.out; simp only at htl; omega
          simp only at hk
          clear hown hok hE hbel hpb hne htl HS2 e0 e1
          by_cases hlt : k < xs.len
          · have hltz : (k : Int) < (xs.len : Int) := by omega
            have hltn : k < ys.len := by have := HAL.out.1; omega
            have hlty : (k : Int) < (ys.len : Int) := by omega
            obtain ⟨gx, ox, PA, pc, rfl, hx1⟩ := VRow.el HX.out.2 hlt
            obtain ⟨gy, oy, QA, qc, rfl, hy1⟩ := VRow.el HY.out.2 hltn
            have hct := cntTo_succ hlt
            have hsp := split_at_k (P := fun j => (xs.at j).kids = (ys.at j).kids) hlt
            have hll : (xs.at k).kids.len = (ys.at k).kids.len := (HAL.out.2 k hlt).2.2.2.2
            have hEk := HE.out
            simp only at hEk
            rw [hsp] at hEk
            have hE2 : E ↔ (eqP L ∧ (xs.at k).kids = (ys.at k).kids) ∧ ∀ j, k + 1 ≤ j → j < xs.len → (xs.at j).kids = (ys.at j).kids := by rw [hEk, and_assoc]
            generalize xs.at k = p at *
            generalize ys.at k = q at *
            obtain ⟨pk, pb, pt, pp, ps⟩ := p
            obtain ⟨qk, qb, qt, qp, qs⟩ := q
            simp only at hll hE2
            have HLL := Lib.hid hll
            clear hll
            have hcp : cntTo xs (k + 1) = cntTo xs k + (1 + cntVs ps) := hct
            have HQ1 : Hid ((⟨ps, PA, pc⟩ : KR).ok w1) := ⟨hx1.cap, hx1.row⟩
            have HQ2 : Hid ((⟨qs, QA, qc⟩ : KR).ok w1) := ⟨hy1.cap, hy1.row⟩
            have HX1 := Lib.hid (hx1.later HBE.out)
            have HY1 := Lib.hid (hy1.later HBE.out)
            have HE2 := Lib.hid hE2
            have HCP := Lib.hid hcp
            obtain ⟨p0, p1, p2, p3, p4⟩ := HX1.out.five
            have HBX : Hid (Below wr.heap.size wr (wr.alloc (.cells #[.int .i64 pk, .int .u8 ((pb.toNat : Nat) : Int), .string (bs pt), .int .i64 pp, .slice PA ps.len pc] 27))) := (Below.refl _ _).alloc (Nat.le_refl _) _
            clear hsp hEk hE2 hct hcp hx1 hy1 HE
            by_cases hy : 0 < ps.len
            · have hyz : (0 : Int) < (ps.len : Int) := by omega
              have HSQ : Hid (SqS (wr.alloc (.cells #[.int .i64 pk, .int .u8 ((pb.toNat : Nat) : Int), .string (bs pt), .int .i64 pp, .slice PA ps.len pc] 27)) ⟨xs, some ⟨gx, ox, none⟩, xc⟩ ⟨ys, some ⟨gy, oy, none⟩, yc⟩ bx ⟨pk, pb, pt, pp, ps⟩ PA pc gy (oy + k * 5) ⟨qk, qb, qt, qp, qs⟩ QA qc wr.heap.size (wr.alloc (.cells #[.int .i64 pk, .int .u8 ((pb.toNat : Nat) : Int), .string (bs pt), .int .i64 pp, .slice PA ps.len pc] 27))) :=
                ⟨Below.refl _ _, HPB.out.later HBX.out, Blk.new _ _ _, HY1.out.later HBX.out⟩
              go_upto_region 11 with (fail)
              generalize hwx : wr.alloc (.cells #[.int .i64 pk, .int .u8 ((pb.toNat : Nat) : Int), .string (bs pt), .int .i64 pp, .slice PA ps.len pc] 27) = wx at *
              have HO2 := Lib.hid (HO.out.later HBX.out)
              have HB2 := Lib.hid (HBE.out.trans (HBX.out.mono HBE.out.size))
              clear hwx p0 p1 p2 p3 p4 HX1 HY1
              refine wp_region_stable_tail 11 (S := (SqS wx ⟨xs, some ⟨gx, ox, none⟩, xc⟩ ⟨ys, some ⟨gy, oy, none⟩, yc⟩ bx ⟨pk, pb, pt, pp, ps⟩ PA pc gy (oy + k * 5) ⟨qk, qb, qt, qp, qs⟩ QA qc wr.heap.size)) (hSt := fun _ _ h hb => h.later hb) (plan := [[(5, none)], [(8, none)], [(48, some 1)], [(6, none)], [(50, some 3)], [(7, none)], [(51, some 4), (52, some 5)], [(53, some 6)], [(54, some 7)], [(49, some 2), (55, some 8)], [(56, some 9)]]) rfl rfl (by kernel_rfl) (by kernel_rfl) (by kernel_rfl) (by kernel_rfl) ?hS ?_
              rotate_left
              iterate 10 first
                | (refine chain_skip (by rfl) (by rfl) ?_)
                | (apply chain_want (by rfl)
                   · intro act wx hS hr
                     simp at hr
                     obtain ⟨p0, p1, p2, p3, p4⟩ := vl_cells hS.kd
                     obtain ⟨q0, q1, q2, q3, q4⟩ := hS.ot.five
                     have e0 := hS.pr.cell 0
                     have e1 := hS.pr.cell 1
                     unfold KR.cell at e0 e1
                     simp at e0 e1
                     go_simp
                     (try go_ints)
                     first
                       | exact Done.same
                  )
              (refine chain_rel (NewPr (.slice PA ps.len pc) (.slice QA qs.len qc)) (NewPr.later _ _) (by rfl) ?_ ?_
               · intro act wx hS hr
                 simp at hr
                 obtain ⟨p0, p1, p2, p3, p4⟩ := vl_cells hS.kd
                 obtain ⟨q0, q1, q2, q3, q4⟩ := hS.ot.five
                 have e0 := hS.pr.cell 0
                 have e1 := hS.pr.cell 1
                 unfold KR.cell at e0 e1
                 simp at e0 e1
                 all_goals go_simp
                 exact Done.rel ((Below.refl _ _).alloc (Nat.le_refl _) _) ⟨_, rfl, Blk.new _ _ _⟩
              )
              show ∀ w', _ → _
              intro w5 hw5
              simp [Act.put]
              case hS => exact HSQ.out
              intro v5 hv5
              obtain ⟨gn, rfl, hnb⟩ := hv5
              have HNB := Lib.hid hnb
              have HW5 := Lib.hid hw5
              have HLO : Hid (w1.heap.size ≤ w5.heap.size) := Nat.le_trans HB2.out.size HW5.out.bel.size
              clear hnb hw5 HSQ
              go_wp2_with (at_builtin; refine wpList_append_pr rfl _ _ rfl w1.heap.size (.slice lA L.length lc) L rfl (HO2.out.later HW5.out.bel) gn (⟨ps, PA, pc⟩, ⟨qs, QA, qc⟩) rfl HNB.out (by omega) HLO.out ?_; intro v6 w6 h1 h2 h3; have HO6 := Lib.hid h1; have HG6 := Lib.hid h2; have HP6 := Lib.hid h3; clear h1 h2 h3)
              have HB6 := Lib.hid ((HB2.out.trans (HW5.out.bel.mono HB2.out.size)).grown HG6.out HLO.out (fun k hk => (World.ownsRow.lt (HO2.out.later HW5.out.bel) k hk).1))
              have HPB6 := Lib.hid (blk_gb HW5.out.pr HNE.out HG6.out)
              have HN6 : Hid (v6.ownBlock ≠ some bx) := by
                unfold Hid
                rcases HP6.out with h | ⟨g', h, h'⟩
                · rw [h]; exact HNE.out
                · rw [h]
                  intro e
                  have e : g' = bx := Option.some.inj e
                  have := HW5.out.pr.lt
                  omega
              go_wp2
              go_roundw
              case rel => exact ⟨k + 1, L ++ [(⟨ps, PA, pc⟩, ⟨qs, QA, qc⟩)], by simp only; omega, by go_num, HO6.out, okP_snoc HK.out HQ1.out HQ2.out, by rw [eqP_snoc]; exact HE2.out, by rw [todoP_snoc, HCP.out]; have := HTL.out; simp only at this ⊢; omega, HB6.out, HPB6.out, HN6.out⟩
              case measure => simp [intOf]; omega
            · have hyz : ¬ (0 : Int) < (ps.len : Int) := by omega
              have h1 : ps = .nil := Vs.nil_of (by omega)
              have h2 : qs = .nil := Vs.nil_of (by have := HLL.out; omega)
              have HE3 : Hid (E ↔ eqP L ∧ ∀ j, k + 1 ≤ j → j < xs.len → (xs.at j).kids = (ys.at j).kids) := by
                unfold Hid
                rw [HE2.out, h1, h2]
                exact ⟨fun h => ⟨h.1.1, h.2⟩, fun h => ⟨⟨h.1, rfl⟩, h.2⟩⟩
              clear h1 h2 HE2
              go_wp2
              go_roundw
              case rel => exact ⟨k + 1, L, by simp only; omega, by go_num, HO.out.later HBX.out, HK.out, HE3.out, by rw [HCP.out]; have := HTL.out; simp only at this ⊢; omega, HBE.out.trans (HBX.out.mono HBE.out.size), HPB.out.later HBX.out, HNE.out⟩
              case measure => simp [intOf]; omega
          · obtain rfl : k = xs.len := by omega
            have hlast : ¬ ((xs.len : Nat) : Int) < (xs.len : Int) := by omega
            have HNEW : Hid (SoP w1 w1.heap.size E (.slice lA L.length lc) wr (todoP L)) := ⟨L, HO.out, HK.out, by
              rw [HE.out]
              exact ⟨fun h => h.1, fun h => ⟨h, fun j h1 h2 => by simp only at h2; omega⟩⟩, rfl, by have := HTL.out; have h2 := cntTo_le xs xs.len; have := HTP.out; simp only at *; omega, HBE.out⟩
            have HLT : Hid (todoP L < N) := by
              unfold Hid
              have := HTL.out
              have h2 := cntTo_le xs xs.len
              have := HTP.out
              simp only at *
              omega
            clear HO HK HE HBE HPB HTL
            go_wp2
            go_roundw
            case rel => exact ⟨_, HNEW.out⟩
            case measure => exact Nat.lt_of_le_of_lt (msr_le HNEW.out) (by rw [← HMS2.out]; exact HLT.out)
      · have hab : alikeB xs ys = false := alikeB_f hal
        have hr : r = false := HF.out (fun h => alike_not hal (HEQ0.out.1 h).2)
        subst hr
        clear hal
        go_wp2
        go_ret
        exact ⟨rfl, HB1.out.trans ((HBC.out.mono HB1.out.size).trans ((HBE.out.trans (HB2.out.mono HBE.out.size)).mono (Nat.le_trans HB1.out.size HBC.out.size)))⟩
    · have hl0 : l = [] := List.length_eq_zero_iff.1 (by omega)
      obtain ⟨xA, xc, rfl, -⟩ := pr_form hown
      subst hl0
      have hr : r = true := HT.out (HEQ.out.2 (fun p hp => by cases hp))
      subst hr
      clear hown
      go_wp2
      go_ret
      exact ⟨rfl, HB1.out.trans ((HBC.out.mono HB1.out.size).trans (HBE.out.mono (Nat.le_trans HB1.out.size HBC.out.size)))⟩
end Go.Proofs.Ytgdlbahfmddkaaa
