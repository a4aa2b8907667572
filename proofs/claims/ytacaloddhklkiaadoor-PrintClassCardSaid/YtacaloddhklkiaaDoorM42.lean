/- The document's Read: walked. -/
import Derived.Test.YtacaloddhklkiaaDoorM39
import Derived.Test.YtacaloddhklkiaaDoorM41
namespace Go.Proofs.YtacaloddhklkiaaDoor
open Go Go.RowKit
set_option linter.unusedVariables false
set_option linter.unusedSimpArgs false

structure RrS (w0 : World) (v : Value) (T : List Tok) (w : World) : Prop where
  bel : Below w0.heap.size w0 w
  own : OwnT w w0.heap.size v T
theorem RrS.later {w0 w w' : World} {v : Value} {T : List Tok} (h : RrS w0 v T w) (hb : Below w.heap.size w w') : RrS w0 v T w' := ⟨h.bel.trans (hb.mono h.bel.size), h.own.later hb⟩
def RrL (w0 : World) (l : List UInt8) (v iv : Value) (w : World) : Prop :=
  ∃ (p : Nat) (T : List Tok), p ≤ l.length ∧ iv = .int .i64 (p : Int) ∧ T.length ≤ p ∧ readL l 0 0 = (readL (l.drop p) p 0).map (T ++ ·) ∧ RrS w0 v T w
theorem rr_space {l : List UInt8} {p : Nat} {T : List Tok} (h : readL l 0 0 = (readL (l.drop p) p 0).map (T ++ ·)) (hp : p < l.length) (hc : l[p]'hp = 32) : readL l 0 0 = (readL (l.drop (p + 1)) (p + 1) 0).map (T ++ ·) := by
  rw [h, List.drop_eq_getElem_cons hp]
  conv => lhs; unfold readL
  rw [if_pos hc]
theorem rr_bad {l : List UInt8} {p e : Nat} {T : List Tok} (h : readL l 0 0 = (readL (l.drop p) p 0).map (T ++ ·)) (hp : p < l.length) (hc : l[p]'hp ≠ 32) (ho : oneV (l[p]'hp) (l.drop (p + 1)) = .bad e) : readL l 0 0 = .error (e, p) := by
  rw [h, List.drop_eq_getElem_cons hp]
  unfold readL
  rw [if_neg hc, ho]; rfl
theorem rr_tok {l : List UInt8} {p n : Nat} {t : Tok} {T : List Tok} (h : readL l 0 0 = (readL (l.drop p) p 0).map (T ++ ·)) (hp : p < l.length) (hc : l[p]'hp ≠ 32) (ho : oneV (l[p]'hp) (l.drop (p + 1)) = .tok t n) :
    p + n + 1 ≤ l.length ∧ readL l 0 0 = (readL (l.drop (p + n + 1)) (p + n + 1) 0).map ((T ++ [{ t with at_ := p }]) ++ ·) := by
  have hn := (oneV_tok ho).2.2.1
  rw [List.length_drop] at hn
  refine ⟨by omega, ?_⟩
  rw [h, List.drop_eq_getElem_cons hp]
  conv => lhs; unfold readL
  rw [if_neg hc, ho]
  simp only
  rw [readL_skip (l.drop (p + 1)) (p + 1) n n (Nat.le_refl _) (by rw [List.length_drop]; omega), List.drop_drop, Nat.sub_self, show p + 1 + n = p + n + 1 by omega]
  cases readL (l.drop (p + n + 1)) (p + n + 1) 0 with
  | error e => rfl
  | ok r => show Except.ok _ = Except.ok _; simp
theorem rr_end {l : List UInt8} {p : Nat} {T : List Tok} (h : readL l 0 0 = (readL (l.drop p) p 0).map (T ++ ·)) (hp : l.length ≤ p) (hp2 : p ≤ l.length) : readL l 0 0 = .ok (T ++ [{ kind := 10, at_ := l.length }]) := by
  rw [h, List.drop_of_length_le hp, readL_nil, show p = l.length by omega]; rfl
set_option maxHeartbeats 16000000 in
set_option maxRecDepth 1000000 in
theorem rread_any (l : List UInt8) (hl : l.length ≤ 1073741800) (w : World) : Calls Tryd.prog 15 #[.string (bs l)] w (RdPost w l) := by
  go_enter Tryd.func15, Tryd.ntmps15
  go_wp2
  go_loopw [5, 6] (RrL w l) (fun _ i _ => l.length - (intOf i).toNat)
  case atStart => exact ⟨0, [], Nat.zero_le _, rfl, Nat.le_refl _, by rw [List.drop_zero]; cases readL l 0 0 <;> rfl, ⟨Below.refl _ _, OwnT.nil _ _⟩⟩
  case round =>
    obtain ⟨p, T, hp, rfl, hT, hi, hs⟩ := hrel
    have HI := Lib.hid hi
    have HS := Lib.hid hs
    clear hi hs
    have hpl : (p : Int) ≤ 1073741800 := by omega
    by_cases hlt : p < l.length
    · have hq : p < (bs l).size := by rw [bs_size]; exact hlt
      have hqz : (p : Int) < ((bs l).size : Int) := by omega
      have hget : (bs l)[p]'hq = l[p]'hlt := bs_get _ _ _
      by_cases hc : l[p]'hlt = 32
      · have hcz : (((l[p]'hlt).toNat : Int) == 32) = true := by rw [hc]; rfl
        have HN := Lib.hid (rr_space HI.out hlt hc)
        clear hc HI
        generalize l[p]'hlt = c at *
        go_wp2
        go_roundw
        case rel => exact ⟨p + 1, T, by omega, by go_num, by omega, HN.out, HS.out⟩
        case measure => simp [intOf]; omega
      · have hcz : (((l[p]'hlt).toNat : Int) == 32) = false := by
          rw [beq_eq_false_iff_ne]; intro e; exact hc (UInt8.toNat_inj.1 (by show _ = 32; omega))
        have HV : Hid (roneV l p = roneO (oneV (l[p]'hlt) (l.drop (p + 1))) p) := by unfold Hid roneV; rw [List.getD_eq_getElem?_getD, List.getElem?_eq_getElem hlt]; rfl
        have FO : Hid (∀ w', Calls Tryd.prog 32 #[.string (bs l), .int .i64 (p : Int)] w' (Ans w' (roneV l p))) := fun w' => rone_any l p hl hlt w'
        cases ho : oneV (l[p]'hlt) (l.drop (p + 1)) with
        | bad e =>
          have hez := (oneV_bad ho).1
          have HR := Lib.hid (rr_bad HI.out hlt hc ho)
          rw [HV.out, ho] at FO
          have hez2 : ((e : Int) != 0) = true := by rw [bne_iff_ne]; omega
          have hez3 : ((e : Int) == 0) = false := by rw [beq_eq_false_iff_ne]; omega
          clear ho hc HV HI hez
          generalize l[p]'hlt = c at *
          unfold roneO at FO
          go_wp2_with fail
          refine (FO.out _).mono ?_; rintro e' w2 ⟨rfl, hb2⟩
          have hb3 := hb2.trans ((Below.refl w2.heap.size w2).alloc (Nat.le_refl _) (.cells #[.int .i64 0, .int .i64 (p : Int), .int .u64 0, .int .u64 0, .int .u64 0, .int .u64 0, .string ⟨#[]⟩, .int .i64 0, .int .i64 0] 38) |>.mono hb2.size)
          have HB := Lib.hid (HS.out.later hb3).bel
          clear hb2 hb3
          go_wp2
          go_ret3
          unfold RdPost
          rw [HR.out]
          exact ⟨rfl, HB.out⟩
        | tok t n =>
          obtain ⟨hn, hnx⟩ := rr_tok HI.out hlt hc ho
          have HN := Lib.hid hnx
          rw [HV.out, ho] at FO
          obtain ⟨k, hk⟩ : ∃ k, k = p + n + 1 := ⟨_, rfl⟩
          obtain ⟨x, hx⟩ : ∃ x, x = ({ t with at_ := p } : Tok) := ⟨_, rfl⟩
          unfold roneO at FO
          rw [← hk] at HN hn
          have FO2 : Hid (∀ w', Calls Tryd.prog 32 #[.string (bs l), .int .i64 (p : Int)] w' (Ans w' (.tuple #[.agg (tokC x), .int .i64 (k : Int), .int .i64 0]))) := by rw [hx, hk]; exact FO
          rw [← hx] at HN
          have HKP : Hid (p < k ∧ k ≤ l.length) := ⟨by omega, hn⟩
          have hTl : T.length < 1073741824 := by omega
          clear ho hc HV HI FO hnx hx hk hn
          generalize l[p]'hlt = c at *
          have HXC : Hid (tokC x = #[.int .i64 (x.kind : Int), .int .i64 (x.at_ : Int), .int .u64 (wd x.cls 0), .int .u64 (wd x.cls 1), .int .u64 (wd x.cls 2), .int .u64 (wd x.cls 3), .string (bs x.text), .int .i64 (x.lo : Int), .int .i64 (x.hi : Int)]) := rfl
          rw [HXC.out] at FO2
          go_wp2_with fail
          refine (FO2.out _).mono ?_; rintro e' w2 ⟨rfl, hb2⟩
          have HS2 := Lib.hid (HS.out.later hb2)
          have HS3 := Lib.hid (HS2.out.later ((Below.refl w2.heap.size w2).alloc (Nat.le_refl _) (.cells (tokC x) 38)))
          have HX3 := Lib.hid (Blk.new w2 (tokC x) 38)
          rw [HXC.out] at HS3 HX3
          clear hb2 HS FO2 HS2
          go_upto_region 7 with (fail)
          generalize w2.alloc (.cells #[.int .i64 (x.kind : Int), .int .i64 (x.at_ : Int), .int .u64 (wd x.cls 0), .int .u64 (wd x.cls 1), .int .u64 (wd x.cls 2), .int .u64 (wd x.cls 3), .string (bs x.text), .int .i64 (x.lo : Int), .int .i64 (x.hi : Int)] 38) = w3 at *
          generalize w2.heap.size = bx at *
          obtain ⟨g0, g1, g2, g3, g4, g5, g6, g7, g8⟩ := nine_cells HX3.out
          have HS4 := Lib.hid (HS3.out.later ((Below.refl w3.heap.size w3).alloc (Nat.le_refl _) (.cells (tokC x) 38)))
          have HK := Lib.hid (Blk.new w3 (tokC x) 38)
          have hbase4 := HS4.out.bel.size
          rw [HXC.out] at HS4 hbase4 HK
          go_wp2_with (at_builtin; refine wpList_append_tok rfl _ _ rfl w.heap.size _ T rfl HS4.out.own w3.heap.size x rfl (HXC.out.symm ▸ HK.out) hTl hbase4 ?_; intro v' w7 ho7 hb7; have HS7 : Hid (RrS w v' (T ++ [x]) w7) := ⟨HS4.out.bel.trans (hb7 _ (Nat.le_refl _)), ho7⟩; clear ho7 hb7)
          go_roundw
          case rel => exact ⟨k, T ++ [x], HKP.out.2, rfl, by have := HKP.out.1; rw [List.length_append]; simp; omega, HN.out, HS7.out⟩
          case measure => have := HKP.out; simp [intOf]; omega
    · have hqz : ¬ (p : Int) < ((bs l).size : Int) := by rw [bs_size]; omega
      have HR := Lib.hid (rr_end HI.out (by omega) hp)
      have hTl : T.length < 1073741824 := by omega
      have hz := (Below.refl w.heap.size w)
      obtain ⟨x, hx⟩ : ∃ x, x = ({ kind := 10, at_ := l.length } : Tok) := ⟨_, rfl⟩
      have HXC : Hid (tokC x = #[.int .i64 10, .int .i64 ((bs l).size : Int), .int .u64 0, .int .u64 0, .int .u64 0, .int .u64 0, .string ⟨#[]⟩, .int .i64 0, .int .i64 0]) := by
        unfold Hid; rw [hx, tokC_plain, bs_size]; rfl
      rw [← hx] at HR
      have HS4 := Lib.hid (HS.out.later ((Below.refl wr.heap.size wr).alloc (Nat.le_refl _) (.cells (tokC x) 38)))
      have HK := Lib.hid (Blk.new wr (tokC x) 38)
      have hbase4 := HS4.out.bel.size
      rw [HXC.out] at HS4 hbase4 HK
      clear hx hz HI HS
      go_wp2_with (at_builtin; refine wpList_append_tok rfl _ _ rfl w.heap.size _ T rfl HS4.out.own wr.heap.size x rfl (HXC.out.symm ▸ HK.out) hTl hbase4 ?_; intro v' w7 ho7 hb7; have HO7 := Lib.hid ho7; have HB7 := Lib.hid (HS4.out.bel.trans (hb7 _ (Nat.le_refl _))); clear ho7 hb7)
      go_ret3
      unfold RdPost
      rw [HR.out]
      obtain ⟨A, c, hv, hrow, hcap⟩ := HO7.out.rowc
      exact ⟨A, c, by rw [← hv]; rfl, hrow, HB7.out, hcap⟩
end Go.Proofs.YtacaloddhklkiaaDoor
