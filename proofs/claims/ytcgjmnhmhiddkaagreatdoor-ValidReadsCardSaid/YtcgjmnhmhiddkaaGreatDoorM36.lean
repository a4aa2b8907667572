/- The document's Read: walked. -/
import Derived.Test.YtcgjmnhmhiddkaaGreatDoorM34
import Derived.Test.YtcgjmnhmhiddkaaGreatDoorM35
import Derived.Test.YtcgjmnhmhiddkaaGreatDoorM19
import Derived.Test.YtcgjmnhmhiddkaaGreatDoorM27
import Derived.Test.YtcgjmnhmhiddkaaGreatDoorM22
import Derived.Test.YtcgjmnhmhiddkaaGreatDoorM11
import Derived.Laws.EntriesVeiled
namespace Go.Proofs.YtcgjmnhmhiddkaaGreatDoor
open Go Go.RowKit
set_option linter.unusedVariables false
set_option linter.unusedSimpArgs false
structure RrS (w0 : World) (v : Value) (T : List Tok) (w : World) : Prop where
  bel : Below w0.heap.size w0 w
  own : OwnT w w0.heap.size v T
theorem RrS.later {w0 w w' : World} {v : Value} {T : List Tok} (h : RrS w0 v T w) (hb : Below w.heap.size w w') : RrS w0 v T w' := ⟨h.bel.trans (hb.mono h.bel.size), h.own.later hb⟩
def RrL (w0 : World) (l : List UInt8) (v iv : Value) (w : World) : Prop :=
  ∃ (p : Nat) (T : List Tok), p ≤ l.length ∧ iv = .int .i64 (p : Int) ∧ T.length ≤ p ∧ readL l 0 0 = (readL (l.drop p) p 0).map (T ++ ·) ∧ RrS w0 v T w
theorem rr_space {l : List UInt8} {p : Nat} {T : List Tok} (h : readL l 0 0 = (readL (l.drop p) p 0).map (T ++ ·)) (hp : p < l.length) (hc : l[p]'hp = 32) : readL l 0 0 = (readL (l.drop (p + 1)) (p + 1) 0).map (T ++ ·) := by
  rw [h, List.drop_eq_getElem_cons hp]
  conv => lhs; unfold readL
  rw [if_pos hc]
theorem rr_bad {l : List UInt8} {p e : Nat} {T : List Tok} (h : readL l 0 0 = (readL (l.drop p) p 0).map (T ++ ·)) (hp : p < l.length) (hc : l[p]'hp ≠ 32) (ho : oneV (l[p]'hp) (l.drop (p + 1)) = .bad e) : readL l 0 0 = .error (e, p) := by
  rw [h, List.drop_eq_getElem_cons hp]
  unfold readL
  rw [if_neg hc, ho]; rfl
theorem rr_tok {l : List UInt8} {p n : Nat} {t : Tok} {T : List Tok} (h : readL l 0 0 = (readL (l.drop p) p 0).map (T ++ ·)) (hp : p < l.length) (hc : l[p]'hp ≠ 32) (ho : oneV (l[p]'hp) (l.drop (p + 1)) = .tok t n) :
    p + n + 1 ≤ l.length ∧ readL l 0 0 = (readL (l.drop (p + n + 1)) (p + n + 1) 0).map ((T ++ [{ t with at_ := p }]) ++ ·) := by
  have hn := (oneV_tok ho).2.2.1
  rw [List.length_drop] at hn
  refine ⟨by omega, ?_⟩
  rw [h, List.drop_eq_getElem_cons hp]
  conv => lhs; unfold readL
  rw [if_neg hc, ho]
  simp only
  rw [readL_skip (l.drop (p + 1)) (p + 1) n n (Nat.le_refl _) (by rw [List.length_drop]; omega), List.drop_drop, Nat.sub_self, show p + 1 + n = p + n + 1 by omega]
  cases readL (l.drop (p + n + 1)) (p + n + 1) 0 with
  | error e => rfl
  | ok r => show Except.ok _ = Except.ok _; simp
theorem rr_end {l : List UInt8} {p : Nat} {T : List Tok} (h : readL l 0 0 = (readL (l.drop p) p 0).map (T ++ ·)) (hp : l.length ≤ p) (hp2 : p ≤ l.length) : readL l 0 0 = .ok (T ++ [{ kind := 10, at_ := l.length }]) := by
  rw [h, List.drop_of_length_le hp, readL_nil, show p = l.length by omega]; rfl
set_option maxHeartbeats 16000000 in
set_option maxRecDepth 1000000 in
theorem rread_any (l : List UInt8) (hl : l.length ≤ 1073741800) (w : World) : Calls Tryz.prog 22 #[.string (bs l)] w (RdPost w l) := by
  go_enter Tryz.func22, Tryz.ntmps22
  go_wp2
  go_loopw [5, 6] (RrL w l) (fun _ i _ => l.length - (intOf i).toNat)
  case atStart => exact ⟨0, [], Nat.zero_le _, rfl, Nat.le_refl _, by rw [List.drop_zero]; cases readL l 0 0 <;> rfl, ⟨Below.refl _ _, OwnT.nil _ _⟩⟩
  case round =>
    obtain ⟨p, T, hp, rfl, hT, hi, hs⟩ := hrel
    have HI := Lib.hid hi
    have HS := Lib.hid hs
    clear hi hs
    have hpl : (p : Int) ≤ 1073741800 := by omega
    by_cases hlt : p < l.length
    · have hq : p < (bs l).size := by rw [bs_size]; exact hlt
      have hqz : (p : Int) < ((bs l).size : Int) := by omega
      have hget : (bs l)[p]'hq = l[p]'hlt := bs_get _ _ _
      by_cases hc : l[p]'hlt = 32
      · have hcz : (((l[p]'hlt).toNat : Int) == 32) = true := by rw [hc]; rfl
        have HN := Lib.hid (rr_space HI.out hlt hc)
        clear hc HI
        generalize l[p]'hlt = c at *
        go_wp2
        go_roundw
        case rel => exact ⟨p + 1, T, by omega, by go_num, by omega, HN.out, HS.out⟩
        case measure => simp [intOf]; omega
      · have hcz : (((l[p]'hlt).toNat : Int) == 32) = false := by
          rw [beq_eq_false_iff_ne]; intro e; exact hc (UInt8.toNat_inj.1 (by show _ = 32; omega))
        have HV : Hid (roneV l p = roneO (oneV (l[p]'hlt) (l.drop (p + 1))) p) := by unfold Hid roneV; rw [List.getD_eq_getElem?_getD, List.getElem?_eq_getElem hlt]; rfl
        have FO : Hid (∀ w', Calls Tryz.prog 37 #[.string (bs l), .int .i64 (p : Int)] w' (Ans w' (roneV l p))) := fun w' => rone_any l p hl hlt w'
        cases ho : oneV (l[p]'hlt) (l.drop (p + 1)) with
        | bad e =>
          have hez := (oneV_bad ho).1
          have HR := Lib.hid (rr_bad HI.out hlt hc ho)
          rw [HV.out, ho] at FO
          have hez2 : ((e : Int) != 0) = true := by rw [bne_iff_ne]; omega
          have hez3 : ((e : Int) == 0) = false := by rw [beq_eq_false_iff_ne]; omega
          clear ho hc HV HI hez
          generalize l[p]'hlt = c at *
          unfold roneO at FO
          go_wp2_with fail
          refine (FO.out _).mono ?_; rintro e' w2 ⟨rfl, hb2⟩
          have hb3 := hb2.trans ((Below.refl w2.heap.size w2).alloc (Nat.le_refl _) (.cells #[.int .i64 0, .int .i64 (p : Int), .int .u64 0, .int .u64 0, .int .u64 0, .int .u64 0, .string ⟨#[]⟩, .int .i64 0, .int .i64 0] 76) |>.mono hb2.size)
          have HB := Lib.hid (HS.out.later hb3).bel
          clear hb2 hb3
          go_wp2
          go_ret3
          unfold RdPost
          rw [HR.out]
          exact ⟨rfl, HB.out⟩
        | tok t n =>
          obtain ⟨hn, hnx⟩ := rr_tok HI.out hlt hc ho
          have HN := Lib.hid hnx
          rw [HV.out, ho] at FO
          obtain ⟨k, hk⟩ : ∃ k, k = p + n + 1 := ⟨_, rfl⟩
          obtain ⟨x, hx⟩ : ∃ x, x = ({ t with at_ := p } : Tok) := ⟨_, rfl⟩
          unfold roneO at FO
          rw [← hk] at HN hn
          have FO2 : Hid (∀ w', Calls Tryz.prog 37 #[.string (bs l), .int .i64 (p : Int)] w' (Ans w' (.tuple #[.agg (tokC x), .int .i64 (k : Int), .int .i64 0]))) := by rw [hx, hk]; exact FO
          rw [← hx] at HN
          have HKP : Hid (p < k ∧ k ≤ l.length) := ⟨by omega, hn⟩
          have hTl : T.length < 1073741824 := by omega
          clear ho hc HV HI FO hnx hx hk hn
          generalize l[p]'hlt = c at *
          have HXC : Hid (tokC x = #[.int .i64 (x.kind : Int), .int .i64 (x.at_ : Int), .int .u64 (wd x.cls 0), .int .u64 (wd x.cls 1), .int .u64 (wd x.cls 2), .int .u64 (wd x.cls 3), .string (bs x.text), .int .i64 (x.lo : Int), .int .i64 (x.hi : Int)]) := rfl
          rw [HXC.out] at FO2
          go_wp2_with fail
          refine (FO2.out _).mono ?_; rintro e' w2 ⟨rfl, hb2⟩
          have HS2 := Lib.hid (HS.out.later hb2)
          have HS3 := Lib.hid (HS2.out.later ((Below.refl w2.heap.size w2).alloc (Nat.le_refl _) (.cells (tokC x) 76)))
          have HX3 := Lib.hid (Blk.new w2 (tokC x) 76)
          rw [HXC.out] at HS3 HX3
          clear hb2 HS FO2 HS2
          go_upto_region 7 with (fail)
          generalize w2.alloc (.cells #[.int .i64 (x.kind : Int), .int .i64 (x.at_ : Int), .int .u64 (wd x.cls 0), .int .u64 (wd x.cls 1), .int .u64 (wd x.cls 2), .int .u64 (wd x.cls 3), .string (bs x.text), .int .i64 (x.lo : Int), .int .i64 (x.hi : Int)] 76) = w3 at *
          generalize w2.heap.size = bx at *
          obtain ⟨g0, g1, g2, g3, g4, g5, g6, g7, g8⟩ := nine_cells HX3.out
          have HS4 := Lib.hid (HS3.out.later ((Below.refl w3.heap.size w3).alloc (Nat.le_refl _) (.cells (tokC x) 76)))
          have HK := Lib.hid (Blk.new w3 (tokC x) 76)
          have hbase4 := HS4.out.bel.size
          rw [HXC.out] at HS4 hbase4 HK
          go_wp2_with (at_builtin; refine wpList_append_tok rfl _ _ rfl w.heap.size _ T rfl HS4.out.own w3.heap.size x rfl (HXC.out.symm ▸ HK.out) hTl hbase4 ?_; intro v' w7 ho7 hb7; have HS7 : Hid (RrS w v' (T ++ [x]) w7) := ⟨HS4.out.bel.trans (hb7 _ (Nat.le_refl _)), ho7⟩; clear ho7 hb7)
          go_roundw
          case rel => exact ⟨k, T ++ [x], HKP.out.2, rfl, by have := HKP.out.1; rw [List.length_append]; simp; omega, HN.out, HS7.out⟩
          case measure => have := HKP.out; simp [intOf]; omega
    · have hqz : ¬ (p : Int) < ((bs l).size : Int) := by rw [bs_size]; omega
      have HR := Lib.hid (rr_end HI.out (by omega) hp)
      have hTl : T.length < 1073741824 := by omega
      have hz := (Below.refl w.heap.size w)
      obtain ⟨x, hx⟩ : ∃ x, x = ({ kind := 10, at_ := l.length } : Tok) := ⟨_, rfl⟩
      have HXC : Hid (tokC x = #[.int .i64 10, .int .i64 ((bs l).size : Int), .int .u64 0, .int .u64 0, .int .u64 0, .int .u64 0, .string ⟨#[]⟩, .int .i64 0, .int .i64 0]) := by
        unfold Hid; rw [hx, tokC_plain, bs_size]; rfl
      rw [← hx] at HR
      have HS4 := Lib.hid (HS.out.later ((Below.refl wr.heap.size wr).alloc (Nat.le_refl _) (.cells (tokC x) 76)))
      have HK := Lib.hid (Blk.new wr (tokC x) 76)
      have hbase4 := HS4.out.bel.size
      rw [HXC.out] at HS4 hbase4 HK
      clear hx hz HI HS
      go_wp2_with (at_builtin; refine wpList_append_tok rfl _ _ rfl w.heap.size _ T rfl HS4.out.own wr.heap.size x rfl (HXC.out.symm ▸ HK.out) hTl hbase4 ?_; intro v' w7 ho7 hb7; have HO7 := Lib.hid ho7; have HB7 := Lib.hid (HS4.out.bel.trans (hb7 _ (Nat.le_refl _))); clear ho7 hb7)
      go_ret3
      unfold RdPost
      rw [HR.out]
      obtain ⟨A, c, hv, hrow, hcap⟩ := HO7.out.rowc
      exact ⟨A, c, by rw [← hv]; rfl, hrow, HB7.out, hcap⟩
end Go.Proofs.YtcgjmnhmhiddkaaGreatDoor
namespace Go.Proofs.YtcgjmnhmhiddkaaGreatDoor
open Go
set_option linter.unusedVariables false
set_option linter.unusedSimpArgs false
set_option maxRecDepth 100000
def vrBad (r : VR) (e p : Int) : Bool := match r with
  | .ok _ => false
  | .bad e2 p2 => decide (e2 = e) && decide (p2 = p)
def vrOk (r : VR) : Bool := match r with
  | .ok _ => true
  | .bad _ _ => false
theorem vrBad_eq {r : VR} {e p : Int} (h : vrBad r e p = true) : r = .bad e p := by
  unfold vrBad at h
  cases r with
  | ok D => cases h
  | bad e2 p2 => simp only [Bool.and_eq_true, decide_eq_true_eq] at h; rw [h.1, h.2]
theorem aw9_a : (match validL [60, 54, 49, 62, 42, 98, 40, 46, 41] with | .ok D => decide (D.length = 5) && decide ((atN D 4).kind = 4) | _ => false) = true := by decide +kernel
theorem aw9_b : validL [40, 46, 42, 41, 42] = .bad 10 4 := vrBad_eq (by decide +kernel)
theorem aw9_c : validL [46, 32, 97] = .bad 1 2 := vrBad_eq (by decide +kernel)
theorem aw9_d : validL [40, 46, 32] = .bad 6 0 := vrBad_eq (by decide +kernel)
theorem aw9_e : vrOk (validL [46]) = true := by decide +kernel
theorem aw9_f : vrOk (validL []) = false := by decide +kernel
theorem aw9_g : vrOk (validL [40, 41, 123, 49, 44, 50, 125]) = false := by decide +kernel
theorem aw9_ok : ∃ D, validL [60, 54, 49, 62, 42, 98, 40, 46, 41] = .ok D ∧ D.length = 5 ∧ (atN D 4).kind = 4 := by
  have h := aw9_a
  cases hv : validL [60, 54, 49, 62, 42, 98, 40, 46, 41] with
  | bad e p => rw [hv] at h; cases h
  | ok D =>
    rw [hv] at h
    simp only [Bool.and_eq_true, decide_eq_true_eq] at h
    exact ⟨D, rfl, h⟩
end Go.Proofs.YtcgjmnhmhiddkaaGreatDoor
namespace Go.Proofs.YtcgjmnhmhiddkaaGreatDoor
open Go Go.RowKit
set_option linter.unusedVariables false
set_option linter.unusedSimpArgs false
set_option maxRecDepth 100000
structure RgS (w0 : World) (b : Nat) (l : List UInt8) (tv nv av : Value) (w : World) : Prop where
  bel : Below w0.heap.size w0 w
  low : w0.heap.size ≤ b
  box : Blk w b #[.string (bs l), tv, nv, av] 48
theorem RgS.later {w0 w w' : World} {b : Nat} {l : List UInt8} {tv nv av : Value} (h : RgS w0 b l tv nv av w) (hb : Below w.heap.size w w') : RgS w0 b l tv nv av w' := ⟨h.bel.trans (hb.mono h.bel.size), h.low, h.box.later hb⟩
theorem RgS.toks {w0 w : World} {b : Nat} {l : List UInt8} {tv nv av : Value} (h : RgS w0 b l tv nv av w) (v : Value) : RgS w0 b l v nv av (w.setCell ⟨b, 1, none⟩ v) := ⟨h.bel.setCell (p := ⟨b, 1, none⟩) h.low v, h.low, by simpa using h.box.setCell 1 v⟩
theorem RgS.node {w0 w : World} {b : Nat} {l : List UInt8} {tv nv av : Value} (h : RgS w0 b l tv nv av w) (v : Value) : RgS w0 b l tv v av (w.setCell ⟨b, 2, none⟩ v) := ⟨h.bel.setCell (p := ⟨b, 2, none⟩) h.low v, h.low, by simpa using h.box.setCell 2 v⟩
theorem RgS.ats {w0 w : World} {b : Nat} {l : List UInt8} {tv nv av : Value} (h : RgS w0 b l tv nv av w) (v : Value) : RgS w0 b l tv nv v (w.setCell ⟨b, 3, none⟩ v) := ⟨h.bel.setCell (p := ⟨b, 3, none⟩) h.low v, h.low, by simpa using h.box.setCell 3 v⟩
theorem drewV (B : Nat) (w : World) (n : Nat) : Below B w (w.drewN n) := ⟨rfl, rfl, rfl, Nat.le_refl _, fun _ _ => rfl⟩
theorem TRow.setb {w : World} {A : Option Addr} {r : List Tok} (h : TRow w A r) {b o : Nat} {cs : Array Value} {t : TypeId} (hk : Blk w b cs t) (hc : cs.size ≤ 8) (v : Value) : TRow (w.setCell ⟨b, o, none⟩ v) A r := fun i hi => by
  obtain ⟨g, off, ha, hlt, hcl⟩ := h i hi
  have hne : g ≠ b := fun e => by
    subst e
    have h8 := hcl 8 (by omega)
    rw [hk.cell, Array.getElem?_eq_none (by omega)] at h8
    unfold tokC at h8
    simp at h8
  refine ⟨g, off, ha, by simpa [World.setCell] using hlt, fun j hj => ?_⟩
  rw [World.cell?_setCell_other (h := by intro e; injection e with e1; exact hne e1.symm)]
  exact hcl j hj
def KeepB (b : Nat) (w w' : World) : Prop := ∀ c cs t, c ≠ b → Blk w c cs t → Blk w' c cs t
theorem KeepB.of {b : Nat} {w w' : World} (h : Below w.heap.size w w') : KeepB b w w' := fun c cs t _ k => k.later h
theorem KeepB.set {b : Nat} {w w' : World} (h : KeepB b w w') (o : Nat) (v : Value) : KeepB b w (w'.setCell ⟨b, o, none⟩ v) := fun c cs t hne k => (h c cs t hne k).setCell_ne (a := ⟨b, o, none⟩) (Ne.symm hne) v
def TtPost (w0 : World) (b : Nat) (l : List UInt8) (nv av : Value) (w : World) (e : Ending) (w' : World) : Prop := match readL l 0 0 with
  | .ok r => ∃ A c, e = .returned (.tuple #[.int .i64 0, .int .i64 0]) ∧ TRow w' A r ∧ RgS w0 b l (.slice A r.length c) nv av w' ∧ KeepB b w w'
  | .error (f, q) => e = .returned (.tuple #[.int .i64 (f : Int), .int .i64 (q : Int)]) ∧ RgS w0 b l (.slice none 0 0) nv av w' ∧ KeepB b w w'
set_option maxHeartbeats 16000000 in
theorem totok_any {l : List UInt8} (hl : l.length ≤ 1073741823) {w0 : World} (hU : U8T w0) {b : Nat} {nv av : Value} (w : World) (h : RgS w0 b l (.slice none 0 0) nv av w) :
    Calls Tryz.prog 34 #[.pointer (some ⟨b, 0, none⟩)] w (TtPost w0 b l nv av w) := by
  have RD := Lib.hid (lexread_any l w (hU.later h.bel) hl)
  have HS := Lib.hid h
  have e0 := h.box.cell 0
  simp at e0
  clear h hU
  unfold TtPost
  cases hr : readL l 0 0 with
  | ok r =>
    have HR := Lib.hid hr
    clear hr
    go_enter Tryz.func34, Tryz.ntmps34
    go_wp2_with fail
    refine RD.out.mono ?_; intro e w1 hp
    unfold RdPost at hp
    rw [HR.out] at hp
    obtain ⟨A, c, rfl, hrow, hb, hc⟩ := hp
    have HS1 := Lib.hid (HS.out.later hb)
    have HT := Lib.hid hrow
    have HKB : Hid (KeepB b w w1) := KeepB.of hb
    clear hb hrow HS e0 RD
    have e1 := HS1.out.box.cell 1
    have f1 := HS1.out.box.frozen 1
    simp at e1
    go_wp2
    go_ret2
    exact ⟨A, c, rfl, HT.out.setb HS1.out.box (by simp) _, HS1.out.toks _, HKB.out.set _ _⟩
  | error z =>
    obtain ⟨f, q⟩ := z
    have HR := Lib.hid hr
    clear hr
    go_enter Tryz.func34, Tryz.ntmps34
    go_wp2_with fail
    refine RD.out.mono ?_; intro e w1 hp
    unfold RdPost at hp
    rw [HR.out] at hp
    obtain ⟨rfl, hb⟩ := hp
    have HS1 := Lib.hid (HS.out.later hb)
    have HKB : Hid (KeepB b w w1) := KeepB.of hb
    clear hb HS e0 RD
    have e1 := HS1.out.box.cell 1
    have f1 := HS1.out.box.frozen 1
    simp at e1
    go_wp2
    go_ret2
    exact ⟨rfl, HS1.out.toks _, HKB.out.set _ _⟩
def TnPost (w0 : World) (b : Nat) (l : List UInt8) (tv : Value) (r : PR) (w : World) (e : Ending) (w' : World) : Prop := match r with
  | .ok k t => ∃ nv av, e = .returned (.tuple #[.int .i64 0, .int .i64 0]) ∧ OwnN w' w0.heap.size nv t.nodes ∧ OwnI w' w0.heap.size av t.ats ∧ RgS w0 b l tv nv av w' ∧ KeepB b w w'
  | .bad er p => e = .returned (.tuple #[.int .i64 er, .int .i64 p]) ∧ RgS w0 b l tv (.slice none 0 0) (.slice none 0 0) w' ∧ KeepB b w w'
  | .out => False
theorem toks_txtV {l : List UInt8} {r : List Tok} (h : readL l 0 0 = .ok r) (hl : l.length ≤ 281474976710656) : TkTxt' (r.map tkOfT) := fun p => by
  by_cases hp : p < r.length
  · rw [tkT_at hp]
    have := readL_text l 0 0 r h _ (List.getElem_mem hp)
    show (r[p]'hp).text.length ≤ _
    omega
  · have : tkAt (r.map tkOfT) p = tkEnd := by unfold tkAt; rw [List.getD_eq_getElem?_getD, List.getElem?_eq_none (by rw [List.length_map]; omega)]; rfl
    rw [this]; simp [tkEnd]
theorem hrow_tk {w : World} {A : Option Addr} {r : List Tok} (h : TRow w A r) : TkRow w A (r.map tkOfT) := h.tk
set_option maxHeartbeats 16000000 in
theorem tonode_any {l : List UInt8} {r : List Tok} {p : PR} {A : Option Addr} {c : Nat} {w0 : World} {b : Nat} {nv av : Value} (w : World) (h : RgS w0 b l (.slice A r.length c) nv av w)
    (hP : Calls Tryz.prog 53 #[.slice A r.length c] w (PParse w p)) (hnot : p ≠ .out) :
    Calls Tryz.prog 35 #[.pointer (some ⟨b, 0, none⟩)] w (TnPost w0 b l (.slice A r.length c) p w) := by
  have RD := Lib.hid hP
  have HS := Lib.hid h
  have e0 := h.box.cell 1
  simp at e0
  clear h hP
  generalize r.length = n at *
  cases p with
  | out => exact absurd rfl hnot
  | ok k t =>
    unfold TnPost
    go_enter Tryz.func35, Tryz.ntmps35
    go_wp2_with fail
    refine RD.out.mono ?_; intro e w1 hp
    obtain ⟨nv', av', rfl, hn, hi, hb⟩ := hp
    have HS1 := Lib.hid (HS.out.later hb)
    have HN : Hid (OwnN w1 w0.heap.size nv' t.nodes) := own_base hn (HS.out.bel.size)
    have HI : Hid (OwnI w1 w0.heap.size av' t.ats) := own_base hi (HS.out.bel.size)
    have HKB : Hid (KeepB b w w1) := KeepB.of hb
    clear hb hn hi HS e0 RD
    obtain ⟨an', kn', rfl, -⟩ := HN.out.row
    obtain ⟨aa', ka', rfl, -⟩ := HI.out.row
    have e1 := HS1.out.box.cell 2
    have e2 := HS1.out.box.cell 3
    have f1 := HS1.out.box.frozen 2
    have f2 := HS1.out.box.frozen 3
    simp at e1 e2
    go_wp2
    go_ret2
    have g1 := HS1.out.node (.slice an' t.nodes.length kn')
    have g2 := g1.ats (.slice aa' t.ats.length ka')
    exact ⟨_, _, rfl, own_set (own_set HN.out (own_typed HN.out HS1.out.box (by decide)) _) (own_typed HN.out HS1.out.box (by decide)) _, own_set (own_set HI.out (own_typed HI.out HS1.out.box (by decide)) _) (own_typed HI.out HS1.out.box (by decide)) _, g2, (HKB.out.set _ _).set _ _⟩
  | bad er q =>
    unfold TnPost
    go_enter Tryz.func35, Tryz.ntmps35
    go_wp2_with fail
    refine RD.out.mono ?_; intro e w1 hp
    obtain ⟨rfl, hb⟩ := hp
    have HS1 := Lib.hid (HS.out.later hb)
    have HKB : Hid (KeepB b w w1) := KeepB.of hb
    clear hb HS e0 RD
    have e1 := HS1.out.box.cell 2
    have e2 := HS1.out.box.cell 3
    have f1 := HS1.out.box.frozen 2
    have f2 := HS1.out.box.frozen 3
    simp at e1 e2
    go_wp2
    go_ret2
    exact ⟨rfl, (HS1.out.node _).ats _, (HKB.out.set _ _).set _ _⟩
def TrPost (w0 : World) (b : Nat) (l : List UInt8) (tv nv av : Value) (D : List Nd) (ats : List Int) (w : World) (e : Ending) (w' : World) : Prop :=
  (if (fstW D).2 = true then e = .returned (.tuple #[.int .i64 10, .int .i64 (ats.getD (fstW D).1 0)]) else e = .returned (.tuple #[.int .i64 0, .int .i64 0])) ∧ RgS w0 b l tv nv av w' ∧ OwnN w' w0.heap.size nv D ∧ KeepB b w w'
set_option maxHeartbeats 16000000 in
theorem toright_any {l : List UInt8} {D : List Nd} {ats : List Int} (hs : Sm D) (hlen : ats.length = D.length) {w0 : World} {b : Nat} {tv nv av : Value} (w : World) (h : RgS w0 b l tv nv av w) (hn : OwnN w w0.heap.size nv D) (hi : OwnI w w0.heap.size av ats) :
    Calls Tryz.prog 36 #[.pointer (some ⟨b, 0, none⟩)] w (TrPost w0 b l tv nv av D ats w) := by
  have HN := Lib.hid hn
  have HS := Lib.hid h
  have e0 := h.box.cell 2
  simp at e0
  obtain ⟨aa, ca, rfl, hrow⟩ := hi.row
  have HI := Lib.hid hrow
  have RD := Lib.hid (hn.isD.nfirst hs rfl)
  have HX : Hid (∀ i, ats.getD i 0 = ats.getD i 0) := fun _ => rfl
  obtain ⟨n, hnn⟩ : ∃ n, ats.length = n := ⟨_, rfl⟩
  have HIT : Hid ((fstW D).2 = true → (fstW D).1 < n) := fun h => by rw [← hnn, hlen]; exact (fst_hit h).1
  have hlt0 : (n : Int) ≤ 4096 := by have := hs.len; omega
  have HG : Hid (∀ (i : Nat) (w' : World), i < n → IRow w' aa ats → ∃ g o, aa = some ⟨g, o, none⟩ ∧ w'.cell? ⟨g, o + i, none⟩ = some (.int .i64 (ats.getD i 0))) := fun i w' h1 h2 => by
    obtain ⟨g, o, e1, -, e2⟩ := h2 i (by omega)
    exact ⟨g, o, e1, e2⟩
  rw [hnn] at HS
  clear hlen HX
  unfold fstV at RD
  unfold TrPost
  rw [hnn]
  clear hn hi h hs hrow hnn
  generalize (fstW D).2 = q at *
  generalize (fstW D).1 = i at *
  obtain ⟨x, hx⟩ : ∃ x, ats.getD i 0 = x := ⟨_, rfl⟩
  have HG : Hid (∀ (w' : World), i < n → IRow w' aa ats → ∃ g o, aa = some ⟨g, o, none⟩ ∧ w'.cell? ⟨g, o + i, none⟩ = some (.int .i64 x)) := fun w' h1 h2 => by
    have := HG.out i w' h1 h2
    rw [hx] at this; exact this
  rw [hx]
  clear hx
  go_enter Tryz.func36, Tryz.ntmps36
  go_wp2_with fail
  refine RD.out.mono ?_; rintro e w1 ⟨rfl, hb⟩
  have HS1 := Lib.hid (HS.out.later hb)
  have HN1 := Lib.hid (HN.out.later hb)
  have HI1 := Lib.hid (HI.out.later hb)
  have HKB : Hid (KeepB b w w1) := KeepB.of hb
  clear hb e0 HS HN HI RD
  cases q with
  | false =>
    clear HIT
    go_wp2
    go_ret2
    exact ⟨by simp, HS1.out, HN1.out, HKB.out⟩
  | true =>
    have hlt := HIT.out rfl
    clear HIT
    have e3 := HS1.out.box.cell 3
    simp at e3
    obtain ⟨g, o, rfl, e4⟩ := HG.out w1 hlt HI1.out
    clear HG HI1
    have h0 : (0 : Int) ≤ (i : Int) := by omega
    have hi2 : (i : Int) < (n : Int) := by omega
    go_upto_region 3 with (fail)
    go_quiet (fail)
    go_wp2
    go_ret2
    exact ⟨by simp, ⟨HS1.out.bel.trans (drewV _ _ _), HS1.out.low, HS1.out.box.later (drewV _ _ _)⟩, HN1.out.later (drewV _ _ _), fun c cs t hne h => (HKB.out c cs t hne h).later (drewV _ _ _)⟩
def wayC : Array Value := #[.func (.func 34) #[] #[], .func (.func 35) #[] #[], .func (.func 36) #[] #[]]
def WysP (w : World) (e : Ending) (w' : World) : Prop := ∃ g, e = .returned (.slice (some ⟨g, 0, none⟩) 3 3) ∧ Blk w' g wayC 53 ∧ Below w.heap.size w w'
set_option maxHeartbeats 4000000 in
theorem ways_any (w : World) : Calls Tryz.prog 21 #[] w (WysP w) := by
  unfold WysP
  go_enter Tryz.func21, Tryz.ntmps21
  go_wp2
  go_ret
  exact ⟨_, rfl, Blk.new _ _ _, (Below.refl _ _).alloc (Nat.le_refl _) _⟩
def PVal (w : World) (r : VR) (e : Ending) (w' : World) : Prop := match r with
  | .ok D => ∃ nv, e = .returned (.tuple #[.agg #[nv], .int .i64 0, .int .i64 0]) ∧ OwnN w' w.heap.size nv D ∧ Below w.heap.size w w'
  | .bad er p => e = .returned (.tuple #[.agg #[.slice none 0 0], .int .i64 er, .int .i64 p]) ∧ Below w.heap.size w w'
inductive StK (w0 : World) (b : Nat) (l : List UInt8) (w : World) : Nat → Prop
  | zero (h : RgS w0 b l (.slice none 0 0) (.slice none 0 0) (.slice none 0 0) w) : StK w0 b l w 0
  | one {r : List Tok} {A : Option Addr} {c : Nat} (hr : readL l 0 0 = .ok r) (ht : TRow w A r) (h : RgS w0 b l (.slice A r.length c) (.slice none 0 0) (.slice none 0 0) w) : StK w0 b l w 1
  | two {r : List Tok} {k : Int} {t : PS} {tv nv av : Value} (hr : readL l 0 0 = .ok r) (hp : parseP (r.map tkOfT) = .ok k t) (hn : OwnN w w0.heap.size nv t.nodes) (hi : OwnI w w0.heap.size av t.ats) (h : RgS w0 b l tv nv av w) : StK w0 b l w 2
  | three {D : List Nd} {tv nv av : Value} (hv : validL l = .ok D) (hn : OwnN w w0.heap.size nv D) (h : RgS w0 b l tv nv av w) : StK w0 b l w 3
theorem StK.later {w0 w w' : World} {b k : Nat} {l : List UInt8} (h : StK w0 b l w k) (hb : Below w.heap.size w w') : StK w0 b l w' k := by
  cases h with
  | zero h => exact .zero (h.later hb)
  | one hr ht h => exact .one hr (ht.later hb) (h.later hb)
  | two hr hp hn hi h => exact .two hr hp (hn.later hb) (hi.later hb) (h.later hb)
  | three hv hn h => exact .three hv (hn.later hb) (h.later hb)
theorem StK.bel {w0 w : World} {b k : Nat} {l : List UInt8} (h : StK w0 b l w k) : Below w0.heap.size w0 w := by cases h <;> (rename_i h; exact h.bel)
def StepP (w0 : World) (b : Nat) (l : List UInt8) (k : Nat) (w : World) (e : Ending) (w' : World) : Prop :=
  ((e = .returned (.tuple #[.int .i64 0, .int .i64 0]) ∧ StK w0 b l w' (k + 1)) ∨ (∃ er p, er ≠ 0 ∧ validL l = .bad er p ∧ e = .returned (.tuple #[.int .i64 er, .int .i64 p]) ∧ Below w0.heap.size w0 w')) ∧ KeepB b w w'
theorem step_any {l : List UInt8} (hl : l.length ≤ 10000000) {w0 : World} (hU : U8T w0) {b k : Nat} {w : World} (hk : k < 3) (h : StK w0 b l w k) :
    ∃ f, wayC[k]? = some (.func (.func f) #[] #[]) ∧ (∀ args w, (callFunc f args).run Tryz.prog w = .ok (.enter f args) w) ∧ Calls Tryz.prog f #[.pointer (some ⟨b, 0, none⟩)] w (StepP w0 b l k w) := by
  cases h with
  | zero h =>
    refine ⟨34, rfl, enters_of Tryz.func34 (by kernel_rfl) rfl, (totok_any (by omega) hU w h).mono fun e w' hp => ?_⟩
    unfold TtPost at hp
    cases hr : readL l 0 0 with
    | ok r => rw [hr] at hp; obtain ⟨A, c, he, ht, hg, hk⟩ := hp; exact ⟨.inl ⟨he, .one hr ht hg⟩, hk⟩
    | error z =>
      obtain ⟨f, q⟩ := z
      rw [hr] at hp
      obtain ⟨he, hg, hk⟩ := hp
      have := (valid_bad (validL_err hr)).1
      exact ⟨.inr ⟨f, q, by omega, validL_err hr, he, hg.bel⟩, hk⟩
  | @one r A c hr ht h =>
    have hlen := readL_len hr
    have hP := parse_any (toks_txtV hr (by omega)) (readL_ends hr) (by rw [List.length_map]; omega) A c w (hrow_tk ht)
    rw [List.length_map] at hP
    refine ⟨35, rfl, enters_of Tryz.func35 (by kernel_rfl) rfl, (tonode_any w h hP (parse_not_out _)).mono fun e w' hp => ?_⟩
    unfold TnPost at hp
    cases hpp : parseP (r.map tkOfT) with
    | out => rw [hpp] at hp; exact hp.elim
    | ok j t => rw [hpp] at hp; obtain ⟨nv, av, he, hn, hi, hg, hk⟩ := hp; exact ⟨.inl ⟨he, .two hr hpp hn hi hg⟩, hk⟩
    | bad er p =>
      rw [hpp] at hp
      obtain ⟨he, hg, hk⟩ := hp
      have hv : validL l = .bad er p := by rw [validL_tok hr, toksR_bad hpp]
      have := (valid_bad hv).1
      exact ⟨.inr ⟨er, p, by omega, hv, he, hg.bel⟩, hk⟩
  | three hv hn h => omega
  | @two r j t tv nv av hr hpp hn hi h =>
    obtain ⟨f1, f2, f3, f4⟩ := parse_vok hr hpp
    have hs : Sm t.nodes := ⟨f1, f2, fun n hn => Nat.le_trans (f4 n hn) (by omega)⟩
    refine ⟨36, rfl, enters_of Tryz.func36 (by kernel_rfl) rfl, (toright_any hs (ats_star (readL_ends hr) hpp).1 w h hn hi).mono fun e w' hp => ?_⟩
    obtain ⟨h1, h2, h3, hk⟩ := hp
    have hv : validL l = nullR t := by rw [validL_tok hr, toksR_ok hpp]
    unfold nullR at hv
    by_cases hf : (fstW t.nodes).2 = true
    · rw [if_pos hf] at h1 hv
      exact ⟨.inr ⟨10, _, by omega, hv, h1, h2.bel⟩, hk⟩
    · rw [if_neg hf] at h1 hv
      exact ⟨.inl ⟨h1, .three hv h3 h2⟩, hk⟩
def RvL (w0 : World) (g b bd : Nat) (l : List UInt8) (x : Value) (w : World) : Prop := ∃ k : Nat, k ≤ 3 ∧ x = .int .i64 (k : Int) ∧ Blk w g wayC 53 ∧ Blk w bd #[.slice none 0 0] 25 ∧ w0.heap.size ≤ bd ∧ StK w0 b l w k
theorem StK.blk {w0 w : World} {b k : Nat} {l : List UInt8} (h : StK w0 b l w k) : ∃ cs, Blk w b cs 48 := by cases h <;> (rename_i h; exact ⟨_, h.box⟩)
theorem way_ne {w0 w : World} {b k g : Nat} {l : List UInt8} {cs : Array Value} (h : StK w0 b l w k) (hg : Blk w g cs 53) : g ≠ b := by
  obtain ⟨us, hu⟩ := h.blk
  exact Blk.typed2 hg hu (by decide)
theorem desc_ne {w0 w : World} {b k g : Nat} {l : List UInt8} {cs : Array Value} (h : StK w0 b l w k) (hg : Blk w g cs 25) : g ≠ b := by
  obtain ⟨us, hu⟩ := h.blk
  exact Blk.typed2 hg hu (by decide)
set_option maxHeartbeats 32000000 in
theorem vread_any {l : List UInt8} (hl : l.length ≤ 10000000) (w : World) (hU : U8T w) : Calls Tryz.prog 8 #[.string (bs l)] w (PVal w (validL l)) := by
  have ST : Hid (∀ (b k : Nat) (w' : World), k < 3 → StK w b l w' k → ∃ f, wayC[k]? = some (.func (.func f) #[] #[]) ∧ (∀ args w, (callFunc f args).run Tryz.prog w = .ok (.enter f args) w) ∧ Calls Tryz.prog f #[.pointer (some ⟨b, 0, none⟩)] w' (StepP w b l k w')) := fun b k w' hk h => step_any hl hU hk h
  clear hU
  go_enter Tryz.func8, Tryz.ntmps8
  go_upto_region 2 with (fail)
  have hb1 := (Below.refl w.heap.size w).alloc (Nat.le_refl _) (.cells #[.slice none 0 0] 25)
  have hb2 := hb1.alloc hb1.size (.cells #[.string (bs l), .slice none 0 0, .slice none 0 0, .slice none 0 0] 48)
  have hk1 := (Blk.new w #[.slice none 0 0] 25).alloc (.cells #[.string (bs l), .slice none 0 0, .slice none 0 0, .slice none 0 0] 48)
  have hk2 := Blk.new' (w := w.alloc (.cells #[.slice none 0 0] 25)) (b := w.heap.size + 1) (by simp) #[.string (bs l), .slice none 0 0, .slice none 0 0, .slice none 0 0] 48
  have HS0 : Hid (StK w (w.heap.size + 1) l _ 0) := .zero ⟨hb2, Nat.le_succ _, hk2⟩
  have HD0 := Lib.hid hk1
  have HLO : Hid (w.heap.size ≤ w.heap.size) := Nat.le_refl _
  clear hb1 hb2 hk1 hk2
  generalize (w.alloc (.cells #[.slice none 0 0] 25)).alloc (.cells #[.string (bs l), .slice none 0 0, .slice none 0 0, .slice none 0 0] 48) = w1 at *
  generalize w.heap.size + 1 = b at *
  obtain ⟨bd, hbd⟩ : ∃ bd, bd = w.heap.size := ⟨_, rfl⟩
  rw [← hbd] at HD0 ⊢
  have HLO : Hid (w.heap.size ≤ bd) := by rw [hbd]; exact Nat.le_refl _
  clear hbd
  go_wp2_with fail
  refine (ways_any _).mono ?_; rintro e w2 ⟨g, rfl, hg, hb⟩
  have HS2 := Lib.hid (HS0.out.later hb)
  have HD2 := Lib.hid (HD0.out.later hb)
  have HG2 := Lib.hid hg
  clear hg hb HS0 HD0
  go_wp2
  have HL : Hid (RvL w g b bd l (.int .i64 0) w2) := ⟨0, Nat.zero_le _, rfl, HG2.out, HD2.out, HLO.out, HS2.out⟩
  clear HG2 HD2 HS2
  go_loopw [14] (RvL w g b bd l) (fun x _ => 3 - (intOf x).toNat)
  case atStart => exact HL.out
  case round =>
    obtain ⟨k, hk, rfl, hg, hd, hbd, hst⟩ := hrel
    have HS := Lib.hid hst
    have HD := Lib.hid hd
    have HG := Lib.hid hg
    clear hst hd hg hbd HL
    by_cases hlt : k < 3
    · obtain ⟨f, hf, hent, -⟩ := ST.out b k wr hlt HS.out
      have hlow := HS.out.bel.size
      have hb2 := (Below.refl wr.heap.size wr).alloc (Nat.le_refl _) (.cells #[.func (.func f) #[] #[]] 53)
      have HS2 := Lib.hid (HS.out.later hb2)
      have HD2 := Lib.hid (HD.out.later hb2)
      have HG2 := Lib.hid (HG.out.later hb2)
      have HW := Lib.hid (Blk.new wr #[.func (.func f) #[] #[]] 53)
      have gk := HG.out.cell k
      rw [hf] at gk
      have hkz : (k : Int) < 3 := by omega
      have HF := Lib.hid hf
      clear hb2 HS HD HG hf hent
      go_upto_region 5 with (fail)
      clear gk
      generalize wr.alloc (.cells #[.func (.func f) #[] #[]] 53) = w3 at *
      generalize wr.heap.size = bx at *
      obtain ⟨f', hf', hent, hcall⟩ := ST.out b k w3 hlt HS2.out
      have hff : f' = f := by have := HF.out; rw [hf'] at this; cases this; rfl
      subst hff
      have HC := Lib.hid hcall
      have NG : Hid (g ≠ b) := way_ne HS2.out HG2.out
      have ND : Hid (bd ≠ b) := desc_ne HS2.out HD2.out
      clear hcall hf' HF
      have e0 := HW.out.cell 0
      simp at e0
      go_wp2_with fail
      refine HC.out.mono ?_; intro e w4 hp
      obtain ⟨hp, hkb⟩ := hp
      have HG4 := Lib.hid (hkb _ _ _ NG.out HG2.out)
      have HD4 := Lib.hid (hkb _ _ _ ND.out HD2.out)
      clear hkb HG2 HD2 HC e0 HW HS2
      rcases hp with ⟨rfl, hst⟩ | ⟨er, p, hne, hv, rfl, hb⟩
      · have HST := Lib.hid hst
        clear hst hent
        go_wp2
        go_roundw
        case rel => exact ⟨k + 1, hlt, by go_num, HG4.out, HD4.out, HLO.out, HST.out⟩
        case measure => simp [intOf]; omega
      · have HV := Lib.hid hv
        have HB := Lib.hid hb
        have hz : (er != 0) = true := by rw [bne_iff_ne]; exact hne
        have d0 := HD4.out.cell 0
        have d1 := HD4.out.frozen 0
        simp at d0
        clear hv hb hent hne
        go_wp2
        exact bodyPost_ret (v := .tuple #[.agg #[.slice none 0 0], .int .i64 er, .int .i64 p]) (by simp [results, Tryz.results8, go_sem, d0, d1]) rfl (by rw [HV.out]; exact ⟨rfl, HB.out.setCell (p := ⟨bd, 0, none⟩) HLO.out _⟩)
    · obtain rfl : k = 3 := by omega
      obtain ⟨D, tv, nv, av, hv, hn, hrg⟩ : ∃ D tv nv av, validL l = .ok D ∧ OwnN wr w.heap.size nv D ∧ RgS w b l tv nv av wr := by
        cases HS.out with
        | three h1 h2 h3 => exact ⟨_, _, _, _, h1, h2, h3⟩
      obtain ⟨an, kn, rfl, -⟩ := hn.row
      have HV := Lib.hid hv
      have HN := Lib.hid hn
      have HR := Lib.hid hrg
      have e2 := hrg.box.cell 2
      simp at e2
      have d0 := HD.out.cell 0
      have d1 := HD.out.frozen 0
      simp at d0
      have hlast : ¬ ((3 : Nat) : Int) < 3 := by omega
      clear hv hn hrg HS
      go_wp2
      exact bodyPost_ret (v := .tuple #[.agg #[.slice an D.length kn], .int .i64 0, .int .i64 0]) (by simp [results, Tryz.results8, go_sem, d0, d1]) rfl (by rw [HV.out]; exact ⟨_, rfl, own_set HN.out (own_typed HN.out HD.out (by decide)) _, HR.out.bel.setCell (p := ⟨bd, 0, none⟩) HLO.out _⟩)
theorem vr_code {l : List UInt8} {er p : Int} (h : validL l = .bad er p) : er ≠ 0 := by have := (valid_bad h).1; omega
set_option maxHeartbeats 8000000 in
theorem vis_any {l : List UInt8} (hl : l.length ≤ 10000000) (w : World) (hU : U8T w) {x : Bool} (hx : vrOk (validL l) = x) : Calls Tryz.prog 11 #[.string (bs l)] w (Ans w (.bool x)) := by
  have RD := Lib.hid (vread_any hl w hU)
  have HZ : Hid (∀ er p, validL l = .bad er p → er ≠ 0) := fun er p h => vr_code h
  clear hU
  subst hx
  generalize validL l = r at *
  generalize bs l = s at *
  cases r with
  | ok D =>
    clear HZ
    go_enter Tryz.func11, Tryz.ntmps11
    go_wp2_with fail
    refine RD.out.mono ?_; rintro e w1 ⟨nv, rfl, hn, hb⟩
    have HB := Lib.hid hb
    obtain ⟨an, kn, rfl, -⟩ := hn.row
    clear hb hn RD
    go_wp2
    go_ret
    exact ⟨rfl, HB.out.trans ((Below.refl _ _).alloc HB.out.size _)⟩
  | bad er p =>
    have hz2 : (er == 0) = false := beq_false_of_ne (HZ.out er p rfl)
    clear HZ
    go_enter Tryz.func11, Tryz.ntmps11
    go_wp2_with fail
    refine RD.out.mono ?_; rintro e w1 ⟨rfl, hb⟩
    have HB := Lib.hid hb
    clear hb RD
    go_wp2
    go_ret
    exact ⟨rfl, HB.out.trans ((Below.refl _ _).alloc HB.out.size _)⟩
structure R9S (w0 : World) (db : Nat) (w : World) : Prop where
  bel : Below w0.heap.size w0 w
  res : Blk w db #[.slice none 0 0] 25
theorem R9S.later {w0 w w' : World} {db : Nat} (h : R9S w0 db w) (hb : Below w.heap.size w w') : R9S w0 db w' := ⟨h.bel.trans (hb.mono h.bel.size), h.res.later hb⟩
theorem own_parts {w : World} {base : Nat} {v : Value} {D : List Nd} (h : OwnN w base v D) : ∃ an kn, v = .slice an D.length kn ∧ D.length ≤ kn ∧ NRow w an D := by
  obtain ⟨A, c, hc, hv, hr⟩ := h.isD
  injection hv with hv
  exact ⟨A, c, by simpa using hv, hc, hr⟩
theorem toks_at {r : List Tok} (p : Nat) : 0 ≤ (tkAt (r.map tkOfT) p).at_ := by
  by_cases hp : p < (r.map tkOfT).length
  · exact tkT_pos p hp
  · have : tkAt (r.map tkOfT) p = tkEnd := by unfold tkAt; rw [List.getD_eq_getElem?_getD, List.getElem?_eq_none (by omega)]; rfl
    rw [this]; simp [tkEnd]
set_option maxHeartbeats 16000000 in
theorem rread9_any {l : List UInt8} (hl : l.length ≤ 600) (w : World) : Calls Tryz.prog 9 #[.string (bs l)] w (PVal w (validL l)) := by
  have RD : Hid (∀ w', Calls Tryz.prog 22 #[.string (bs l)] w' (RdPost w' l)) := fun w' => rread_any l (by omega) w'
  obtain ⟨v, hv⟩ : ∃ v, validL l = v := ⟨_, rfl⟩
  have HS0 : Hid (R9S w w.heap.size (w.alloc (.cells #[.slice none 0 0] 25))) := ⟨(Below.refl w.heap.size w).alloc (Nat.le_refl _) _, Blk.new _ _ _⟩
  rw [hv]
  have HV := Lib.hid hv
  cases hr : readL l 0 0 with
  | error z =>
    obtain ⟨er, p⟩ := z
    have hx := validL_err hr
    rw [hv] at hx
    subst hx
    have hne : ((er : Int) != 0) = true := by rw [bne_iff_ne]; have := (valid_bad hv).1; omega
    have HR := Lib.hid hr
    clear hr hv hl
    go_enter Tryz.func9, Tryz.ntmps9
    go_upto_region 1 with (fail)
    generalize w.alloc (.cells #[.slice none 0 0] 25) = w1 at *
    obtain ⟨db, hdb⟩ : ∃ db, db = w.heap.size := ⟨_, rfl⟩
    rw [← hdb] at HS0 ⊢
    have HLB : Hid (w.heap.size ≤ db) := by rw [hdb]; exact Nat.le_refl _
    clear hdb
    go_wp2_with fail
    refine (RD.out _).mono ?_; intro e w2 hp
    unfold RdPost at hp
    rw [HR.out] at hp
    obtain ⟨rfl, hb⟩ := hp
    have HS := Lib.hid (HS0.out.later hb)
    clear hb HS0 RD
    have HFIN : Hid (Below w.heap.size w (w2.setCell ⟨db, 0, none⟩ (.slice none 0 0))) := HS.out.bel.setCell (p := ⟨db, 0, none⟩) HLB.out _
    have d0 := HS.out.res.cell 0
    have df := HS.out.res.frozen
    simp at d0
    go_wp2
    exact bodyPost_ret (v := .tuple #[.agg #[.slice none 0 0], .int .i64 (er : Int), .int .i64 (p : Int)]) (by simp [results, Tryz.results9, go_sem, d0, df]) rfl ⟨rfl, HFIN.out⟩
  | ok r =>
    have hx := validL_tok hr
    rw [hv] at hx
    have hlen := readL_len hr
    have HPA : Hid (∀ A c w', r.length ≤ c → TRow w' A r → Calls Tryz.prog 23 #[.slice A r.length c] w' (PParse w' (parseP (r.map tkOfT)))) := fun A c w' hc h => by
      have q := rparse5_any (readL_ends hr) (by rw [List.length_map]; omega) (readL_tkok hr) (toks_txtV hr (by omega)) (fun p => toks_at p) A c (by rw [List.length_map]; exact hc) w' h.tk
      rwa [List.length_map] at q
    obtain ⟨pr, hpr⟩ : ∃ pr, parseP (r.map tkOfT) = pr := ⟨_, rfl⟩
    have HR := Lib.hid hr
    have HPR := Lib.hid hpr
    have HX := Lib.hid hx
    have HSM : Hid (∀ k t, pr = .ok k t → Sm t.nodes ∧ t.ats.length = t.nodes.length) := fun k t h => by
      rw [h] at hpr
      obtain ⟨h1, h2, h3, h4⟩ := parse_vok hr hpr
      exact ⟨⟨h1, h2, fun n hn => Nat.le_trans (h4 n hn) (by omega)⟩, (ats_star (readL_ends hr) hpr).1⟩
    rw [hpr] at HPA
    clear hr hv hl hlen hpr hx
    go_enter Tryz.func9, Tryz.ntmps9
    go_upto_region 1 with (fail)
    generalize w.alloc (.cells #[.slice none 0 0] 25) = w1 at *
    obtain ⟨db, hdb⟩ : ∃ db, db = w.heap.size := ⟨_, rfl⟩
    rw [← hdb] at HS0 ⊢
    have HLB : Hid (w.heap.size ≤ db) := by rw [hdb]; exact Nat.le_refl _
    clear hdb
    go_wp2_with fail
    refine (RD.out _).mono ?_; intro e w2 hp
    unfold RdPost at hp
    rw [HR.out] at hp
    obtain ⟨A, c, rfl, hrow, hb, hc⟩ := hp
    have HS := Lib.hid (HS0.out.later hb)
    have PA := Lib.hid (HPA.out A c w2 (by first | exact hc | omega) hrow)
    clear hb hrow hc HS0 RD HPA
    cases pr with
    | out => exact absurd HPR.out (parse_not_out _)
    | bad er p =>
      have hx := HX.out
      rw [toksR_bad HPR.out] at hx
      subst hx
      have hne : (er != 0) = true := by rw [bne_iff_ne]; have := (valid_bad HV.out).1; omega
      clear HX HPR HSM
      go_wp2_with fail
      refine PA.out.mono ?_; rintro e w3 ⟨rfl, hb⟩
      have hb2 := (Below.refl w3.heap.size w3).alloc (Nat.le_refl _) (.cells #[.slice none 0 0] 25)
      have HS3 := Lib.hid (HS.out.later (hb.trans (hb2.mono hb.size)))
      clear hb hb2 HS PA
      go_upto_region 5 with (fail)
      generalize w3.alloc (.cells #[.slice none 0 0] 25) = w4 at *
      have HFIN : Hid (Below w.heap.size w (w4.setCell ⟨db, 0, none⟩ (.slice none 0 0))) := HS3.out.bel.setCell (p := ⟨db, 0, none⟩) HLB.out _
      have d0 := HS3.out.res.cell 0
      have df := HS3.out.res.frozen
      simp at d0
      go_wp2
      exact bodyPost_ret (v := .tuple #[.agg #[.slice none 0 0], .int .i64 er, .int .i64 p]) (by simp [results, Tryz.results9, go_sem, d0, df]) rfl ⟨rfl, HFIN.out⟩
    | ok k t =>
      obtain ⟨hsm, hal⟩ := HSM.out k t rfl
      have hx := HX.out
      rw [toksR_ok HPR.out] at hx
      unfold nullR at hx
      have HM := Lib.hid hsm
      have HIT : Hid ((fstW t.nodes).2 = true → (fstW t.nodes).1 < t.ats.length) := fun h => by rw [hal]; exact (fst_hit h).1
      clear HX HPR HSM hsm
      obtain ⟨D, hD⟩ : ∃ D, t.nodes = D := ⟨_, rfl⟩
      obtain ⟨B, hB⟩ : ∃ B, t.ats = B := ⟨_, rfl⟩
      unfold PParse at PA
      simp only [hD, hB] at PA HM HIT hx hal
      have HXH := Lib.hid hx
      clear hD hB hx
      have h4 := HM.out.len
      go_wp2_with fail
      refine PA.out.mono ?_; rintro e w3 ⟨nv, av, rfl, ho, hi, hb⟩
      obtain ⟨an, kn, rfl, hkn, hrow⟩ := own_parts ho
      obtain ⟨aa, ka, rfl, hri⟩ := hi.row
      have hb2 := (Below.refl w3.heap.size w3).alloc (Nat.le_refl _) (.cells #[.slice an D.length kn] 25)
      have HB3 := Lib.hid (hb.trans (hb2.mono hb.size))
      have HS3 := Lib.hid (HS.out.later (hb.trans (hb2.mono hb.size)))
      have HX3 := Lib.hid (Blk.new w3 #[.slice an D.length kn] 25)
      have HD3 : Hid (IsD D (.agg #[.slice an D.length kn]) _) := ⟨an, kn, hkn, rfl, hrow.later hb2⟩
      have HN3 : Hid (OwnN _ w.heap.size (.slice an D.length kn) D) := (ho.later hb2).weaken HS.out.bel.size
      have HI3 := Lib.hid (hri.later hb2)
      have NE : Hid (w3.heap.size ≠ db) := by have := HS.out.res.lt; have := hb.size; unfold Hid; omega
      clear hb hb2 ho hi hrow hri HS PA hkn
      go_upto_region 5 with (fail)
      generalize w3.alloc (.cells #[.slice an D.length kn] 25) = w4 at *
      generalize w3.heap.size = bx at *
      have RF := Lib.hid (HD3.out.rfirst HM.out (x := fstV D) rfl)
      unfold fstV at RF
      have e0 := HX3.out.cell 0
      have ef := HX3.out.frozen 0
      simp at e0
      obtain ⟨n, hn⟩ : ∃ n, D.length = n := ⟨_, rfl⟩
      have hbl : B.length = n := by omega
      have HBL := Lib.hid hbl
      rw [hbl] at HIT
      have h4z : (n : Int) ≤ 4096 := by omega
      rw [hn] at HD3 HX3 HN3 RF e0 ⊢
      (try rw [hbl])
      clear hn hal hbl h4
      obtain ⟨x, hxx⟩ : ∃ x, B.getD (fstW D).1 0 = x := ⟨_, rfl⟩
      have HG : Hid (∀ (w' : World), (fstW D).1 < n → IRow w' aa B → ∃ g o, aa = some ⟨g, o, none⟩ ∧ w'.cell? ⟨g, o + (fstW D).1, none⟩ = some (.int .i64 x)) := fun w' h1 h2 => by
        obtain ⟨g, o, e1, -, e2⟩ := h2 (fstW D).1 (by rw [HBL.out]; exact h1)
        rw [hxx] at e2
        exact ⟨g, o, e1, e2⟩
      have HXX := HXH
      rw [hxx] at HXX
      clear HXH hxx
      generalize (fstW D).1 = i at *
      generalize (fstW D).2 = q at *
      clear HM HD3
      go_wp2_with fail
      refine RF.out.mono ?_; rintro e w5 ⟨rfl, hb⟩
      have HS5 := Lib.hid (HS3.out.later hb)
      have HX5 := Lib.hid (HX3.out.later hb)
      have HN5 := Lib.hid (HN3.out.later hb)
      have HI5 := Lib.hid (HI3.out.later hb)
      clear hb HS3 HX3 HN3 HI3 e0 ef HB3 RF
      have e0 := HX5.out.cell 0
      have ef := HX5.out.frozen 0
      have d0 := HS5.out.res.cell 0
      have df := HS5.out.res.frozen
      simp at e0 d0
      have n1 := NE.out
      have n2 : db ≠ bx := Ne.symm NE.out
      cases q with
      | true =>
        have hlt := HIT.out rfl
        obtain ⟨g, o, rfl, e4⟩ := HG.out w5 hlt HI5.out
        have n3 : g ≠ db := fun e => by
          subst e
          have h8 := HS5.out.res.cell (o + i)
          rw [e4] at h8
          rcases Nat.eq_zero_or_pos (o + i) with h | h
          · rw [h] at h8; simp at h8
          · rw [Array.getElem?_eq_none (by simp; omega)] at h8; cases h8
        have n4 : db ≠ g := Ne.symm n3
        have h0 : (0 : Int) ≤ (i : Int) := by omega
        have hi2 : (i : Int) < (n : Int) := by omega
        have HVV : Hid (v = .bad 10 x) := HXX.out
        have HFIN : Hid (Below w.heap.size w (w5.setCell ⟨db, 0, none⟩ (.slice none 0 0))) := HS5.out.bel.setCell (p := ⟨db, 0, none⟩) HLB.out _
        clear HIT HG HI5 HN5 HXX HX5 HS5
        go_upto_region 9 with (fail)
        go_region
        go_wp2
        exact bodyPost_ret (v := .tuple #[.agg #[.slice none 0 0], .int .i64 10, .int .i64 x]) (by simp [results, Tryz.results9, go_sem, d0, df]) rfl (by rw [HVV.out]; exact ⟨rfl, HFIN.out.drew⟩)
      | false =>
        have HVV : Hid (v = .ok D) := HXX.out
        have HNF : Hid (OwnN (w5.setCell ⟨db, 0, none⟩ (.slice an n kn)) w.heap.size (.slice an n kn) D) := own_set HN5.out (own_typed HN5.out HS5.out.res (by decide)) _
        have HFIN : Hid (Below w.heap.size w (w5.setCell ⟨db, 0, none⟩ (.slice an n kn))) := HS5.out.bel.setCell (p := ⟨db, 0, none⟩) HLB.out _
        clear HIT HG HI5 HXX
        go_wp2
        exact bodyPost_ret (v := .tuple #[.agg #[.slice an n kn], .int .i64 0, .int .i64 0]) (by simp [results, Tryz.results9, go_sem, d0, df]) rfl (by rw [HVV.out]; exact ⟨_, rfl, HNF.out, HFIN.out⟩)
structure A9S (w0 : World) (b : Nat) (an : Option Addr) (kn : Nat) (D : List Nd) (w : World) : Prop where
  bel : Below w0.heap.size w0 w
  box : Blk w b #[.slice an 5 kn] 25
  row : NRow w an D
  u : U8T w
theorem A9S.later {w0 w w' : World} {b : Nat} {an : Option Addr} {kn : Nat} {D : List Nd} (h : A9S w0 b an kn D w) (hb : Below w.heap.size w w') : A9S w0 b an kn D w' := ⟨h.bel.trans (hb.mono h.bel.size), h.box.later hb, h.row.later hb, h.u.later hb⟩
theorem A9S.step {w0 w w' : World} {b : Nat} {an : Option Addr} {kn : Nat} {D : List Nd} (h : A9S w0 b an kn D w) (hb : Below w.heap.size w w') (cs : Array Value) (t : TypeId) : A9S w0 b an kn D (w'.alloc (.cells cs t)) := h.later (hb.trans ((Below.refl _ _).alloc hb.size _))
set_option maxHeartbeats 16000000 in
theorem awake9_any (w : World) (hU : U8T w) : Calls Tryz.prog 7 #[] w (Ans w (.bool true)) := by
  obtain ⟨D, hv, hlen, hkind⟩ := aw9_ok
  have RA : Hid (∀ w, U8T w → Calls Tryz.prog 8 #[.string ⟨#[60, 54, 49, 62, 42, 98, 40, 46, 41]⟩] w (PVal w (.ok D))) := fun w h => by
    have q := vread_any (l := [60, 54, 49, 62, 42, 98, 40, 46, 41]) (by decide) w h
    rw [hv] at q; exact q
  have RB : Hid (∀ w, U8T w → Calls Tryz.prog 8 #[.string ⟨#[40, 46, 42, 41, 42]⟩] w (PVal w (.bad 10 4))) := fun w h => by
    have q := vread_any (l := [40, 46, 42, 41, 42]) (by decide) w h
    rw [aw9_b] at q; exact q
  have RC : Hid (∀ w, U8T w → Calls Tryz.prog 8 #[.string ⟨#[46, 32, 97]⟩] w (PVal w (.bad 1 2))) := fun w h => by
    have q := vread_any (l := [46, 32, 97]) (by decide) w h
    rw [aw9_c] at q; exact q
  have RD : Hid (∀ w, U8T w → Calls Tryz.prog 8 #[.string ⟨#[40, 46, 32]⟩] w (PVal w (.bad 6 0))) := fun w h => by
    have q := vread_any (l := [40, 46, 32]) (by decide) w h
    rw [aw9_d] at q; exact q
  have IE : Hid (∀ w, U8T w → Calls Tryz.prog 11 #[.string ⟨#[46]⟩] w (Ans w (.bool true))) := fun w h => vis_any (l := [46]) (by decide) w h aw9_e
  have IF_ : Hid (∀ w, U8T w → Calls Tryz.prog 11 #[.string ⟨#[]⟩] w (Ans w (.bool false))) := fun w h => vis_any (l := []) (by decide) w h aw9_f
  have IG : Hid (∀ w, U8T w → Calls Tryz.prog 11 #[.string ⟨#[40, 41, 123, 49, 44, 50, 125]⟩] w (Ans w (.bool false))) := fun w h => vis_any (l := [40, 41, 123, 49, 44, 50, 125]) (by decide) w h aw9_g
  have HU := Lib.hid hU
  have HLEN := Lib.hid hlen
  have HKIND := Lib.hid hkind
  clear hU hv hlen hkind
  go_enter Tryz.func7, Tryz.ntmps7
  go_wp2_with fail
  refine (RA.out _ HU.out).mono ?_; rintro e w1 ⟨nv, rfl, hn, hb⟩
  obtain ⟨an, kn, rfl, hrow⟩ := hn.row
  rw [HLEN.out]
  have HS1 : Hid (A9S w w1.heap.size an kn D (w1.alloc (.cells #[.slice an 5 kn] 25))) := by
    have h2 := hb.trans ((Below.refl _ _).alloc hb.size (.cells #[.slice an 5 kn] 25))
    exact ⟨h2, Blk.new _ _ _, hrow.later ((Below.refl _ _).alloc (Nat.le_refl _) _), HU.out.later h2⟩
  clear hb hrow hn RA HU
  go_upto_region 2 with (fail)
  generalize w1.alloc (.cells #[.slice an 5 kn] 25) = w2 at *
  generalize w1.heap.size = b at *
  go_wp2_with fail
  refine (RB.out _ HS1.out.u).mono ?_; rintro e w3 ⟨rfl, hb⟩
  have HS3 := Lib.hid (HS1.out.step hb #[.slice none 0 0] 25)
  clear hb HS1 RB
  go_upto_region 3 with (fail)
  generalize w3.alloc (.cells #[.slice none 0 0] 25) = w4 at *
  go_wp2_with fail
  refine (RC.out _ HS3.out.u).mono ?_; rintro e w5 ⟨rfl, hb⟩
  have HS5 := Lib.hid (HS3.out.step hb #[.slice none 0 0] 25)
  clear hb HS3 RC
  go_upto_region 4 with (fail)
  generalize w5.alloc (.cells #[.slice none 0 0] 25) = w6 at *
  go_wp2_with fail
  refine (RD.out _ HS5.out.u).mono ?_; rintro e w7 ⟨rfl, hb⟩
  have HS7 := Lib.hid (HS5.out.step hb #[.slice none 0 0] 25)
  clear hb HS5 RD
  go_upto_region 5 with (fail)
  generalize w7.alloc (.cells #[.slice none 0 0] 25) = w8 at *
  have e0 := HS7.out.box.cell 0
  simp at e0
  have h4 : 4 < D.length := by rw [HLEN.out]; decide
  obtain ⟨ba, oa, hAe, -, -⟩ := HS7.out.row 4 h4
  subst hAe
  have g : At10 w8 ba (oa + 4 * 10) (D.getD 4 nd0) := HS7.out.row.at h4 rfl
  have hk : (D.getD 4 nd0).kind = 4 := HKIND.out
  have g0 := g.1
  rw [hk] at g0
  clear g hk h4
  go_wp2_with fail
  refine (IE.out _ HS7.out.u).mono ?_; rintro e y1 ⟨rfl, hb⟩
  have HY1 := Lib.hid (HS7.out.later hb)
  clear hb HS7 IE e0 g0
  go_wp2_with fail
  refine (IF_.out _ HY1.out.u).mono ?_; rintro e y2 ⟨rfl, hb⟩
  have HY2 := Lib.hid (HY1.out.later hb)
  clear hb HY1 IF_
  go_wp2_with fail
  refine (IG.out _ HY2.out.u).mono ?_; rintro e y3 ⟨rfl, hb⟩
  have HY3 := Lib.hid (HY2.out.later hb)
  clear hb HY2 IG
  go_wp2
  go_ret
  exact ⟨rfl, HY3.out.bel⟩
structure UbS (w0 w : World) : Prop where
  bel : Below w0.heap.size w0 w
  u : U8T w
theorem UbS.later {w0 w w' : World} (h : UbS w0 w) (hb : Below w.heap.size w w') : UbS w0 w' := ⟨h.bel.trans (hb.mono h.bel.size), h.u.later hb⟩
structure UdS (w0 : World) (b : Nat) (an : Option Addr) (n kn : Nat) (D : List Nd) (w : World) : Prop where
  s : UbS w0 w
  box : Blk w b #[.slice an n kn] 25
  row : NRow w an D
theorem UdS.later {w0 w w' : World} {b : Nat} {an : Option Addr} {n kn : Nat} {D : List Nd} (h : UdS w0 b an n kn D w) (hb : Below w.heap.size w w') : UdS w0 b an n kn D w' := ⟨h.s.later hb, h.box.later hb, h.row.later hb⟩
theorem UdS.new {w0 w w' : World} (h : UbS w0 w) (hb : Below w.heap.size w w') {an : Option Addr} {n kn : Nat} {D : List Nd} (hr : NRow w' an D) : UdS w0 w'.heap.size an n kn D (w'.alloc (.cells #[.slice an n kn] 25)) :=
  ⟨h.later (hb.trans ((Below.refl _ _).alloc hb.size _)), Blk.new _ _ _, hr.later ((Below.refl _ _).alloc (Nat.le_refl _) _)⟩
def vrE (r : VR) : Int := match r with
  | .ok _ => 0
  | .bad e _ => e
def vrP (r : VR) : Int := match r with
  | .ok _ => 0
  | .bad _ p => p
def vrD (r : VR) : List Nd := match r with
  | .ok D => D
  | .bad _ _ => []
theorem PVal.one {w w' : World} {r : VR} {e : Ending} (h : PVal w r e w') : ∃ an kn, e = .returned (.tuple #[.agg #[.slice an (vrD r).length kn], .int .i64 (vrE r), .int .i64 (vrP r)]) ∧ NRow w' an (vrD r) ∧ Below w.heap.size w w' := by
  cases r with
  | ok D => obtain ⟨nv, rfl, ho, hb⟩ := h; obtain ⟨an, kn, rfl, hr⟩ := ho.row; exact ⟨_, _, rfl, hr, hb⟩
  | bad er p => obtain ⟨rfl, hb⟩ := h; exact ⟨none, 0, rfl, NRow.nil _ _, hb⟩
theorem vr_few (l : List UInt8) : (vrD (validL l)).length ≤ 4096 := by
  cases h : validL l with
  | ok D => exact (valid_ok h).len
  | bad e p => exact Nat.zero_le _
end Go.Proofs.YtcgjmnhmhiddkaaGreatDoor
