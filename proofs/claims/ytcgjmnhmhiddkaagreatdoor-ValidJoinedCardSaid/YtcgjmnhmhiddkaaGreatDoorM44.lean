/- The statement ValidJoined of layer 9, walked. -/
import Derived.Test.YtcgjmnhmhiddkaaGreatDoorM41
import Derived.Test.YtcgjmnhmhiddkaaGreatDoorM43
namespace Go.Proofs.YtcgjmnhmhiddkaaGreatDoor
open Go Go.RowKit
set_option linter.unusedVariables false
set_option linter.unusedSimpArgs false
set_option maxRecDepth 100000

/-- Two descriptions. -/
structure T2S (w0 : World) (b : Nat) (an : Option Addr) (n kn : Nat) (D : List Nd) (c : Nat) (am : Option Addr) (m km : Nat) (E : List Nd) (w : World) : Prop where
  d : TdS w0 b an n kn D w
  e : TdS w0 c am m km E w
theorem T2S.later {w0 w w' : World} {b : Nat} {an : Option Addr} {n kn : Nat} {D : List Nd} {c : Nat} {am : Option Addr} {m km : Nat} {E : List Nd} (h : T2S w0 b an n kn D c am m km E w) (hb : Below w.heap.size w w') : T2S w0 b an n kn D c am m km E w' := ⟨h.d.later hb, h.e.later hb⟩
/-- .. and what was read of both together. -/
structure T4S (w0 : World) (b : Nat) (an : Option Addr) (n kn : Nat) (D : List Nd) (c : Nat) (am : Option Addr) (m km : Nat) (E : List Nd) (bx : Nat) (ax : Option Addr) (nx kx : Nat) (X : List Nd) (by_ : Nat) (ay : Option Addr) (ny ky : Nat) (Y : List Nd) (w : World) : Prop where
  t : T2S w0 b an n kn D c am m km E w
  x : TdS w0 bx ax nx kx X w
  y : TdS w0 by_ ay ny ky Y w
theorem T4S.later {w0 w w' : World} {b : Nat} {an : Option Addr} {n kn : Nat} {D : List Nd} {c : Nat} {am : Option Addr} {m km : Nat} {E : List Nd} {bx : Nat} {ax : Option Addr} {nx kx : Nat} {X : List Nd} {by_ : Nat} {ay : Option Addr} {ny ky : Nat} {Y : List Nd} (h : T4S w0 b an n kn D c am m km E bx ax nx kx X by_ ay ny ky Y w) (hb : Below w.heap.size w w') : T4S w0 b an n kn D c am m km E bx ax nx kx X by_ ay ny ky Y w' := ⟨h.t.later hb, h.x.later hb, h.y.later hb⟩
structure T5S (w0 : World) (b : Nat) (an : Option Addr) (n kn : Nat) (D : List Nd) (c : Nat) (am : Option Addr) (m km : Nat) (E : List Nd) (bx : Nat) (ax : Option Addr) (nx kx : Nat) (X : List Nd) (by_ : Nat) (ay : Option Addr) (ny ky : Nat) (Y : List Nd) (bz : Nat) (az : Option Addr) (nz kz : Nat) (Z : List Nd) (w : World) : Prop where
  q : T4S w0 b an n kn D c am m km E bx ax nx kx X by_ ay ny ky Y w
  z : TdS w0 bz az nz kz Z w
theorem T5S.later {w0 w w' : World} {b : Nat} {an : Option Addr} {n kn : Nat} {D : List Nd} {c : Nat} {am : Option Addr} {m km : Nat} {E : List Nd} {bx : Nat} {ax : Option Addr} {nx kx : Nat} {X : List Nd} {by_ : Nat} {ay : Option Addr} {ny ky : Nat} {Y : List Nd} {bz : Nat} {az : Option Addr} {nz kz : Nat} {Z : List Nd} (h : T5S w0 b an n kn D c am m km E bx ax nx kx X by_ ay ny ky Y bz az nz kz Z w) (hb : Below w.heap.size w w') : T5S w0 b an n kn D c am m km E bx ax nx kx X by_ ay ny ky Y bz az nz kz Z w' := ⟨h.q.later hb, h.z.later hb⟩
theorem PVal.any {w w' : World} {r : VR} {e : Ending} (h : PVal w r e w') : ∃ an n kn er p, e = .returned (.tuple #[.agg #[.slice an n kn], .int .i64 er, .int .i64 p]) ∧ Below w.heap.size w w' := by
  cases r with
  | ok D => obtain ⟨nv, rfl, ho, hb⟩ := h; obtain ⟨an, kn, rfl, -⟩ := ho.row; exact ⟨_, _, _, _, _, rfl, hb⟩
  | bad er p => obtain ⟨rfl, hb⟩ := h; exact ⟨_, _, _, _, _, rfl, hb⟩
theorem join_a (s : List UInt8) : (⟨#[40]⟩ : ByteArray) ++ bs s ++ ⟨#[41]⟩ = bs (brT_ s) := by
  show bs [40] ++ bs s ++ bs [41] = _
  rw [bs_append, bs_append]; rfl
theorem join_b (s : List UInt8) : (⟨#[40, 32]⟩ : ByteArray) ++ bs s ++ ⟨#[32, 41]⟩ = bs (brS s) := by
  show bs [40, 32] ++ bs s ++ bs [32, 41] = _
  rw [bs_append, bs_append]; rfl
theorem join_or (a b : List UInt8) : bs a ++ (⟨#[32, 124, 32]⟩ : ByteArray) ++ bs b = bs (a ++ ([32, 124, 32] ++ b)) := by
  show bs a ++ bs [32, 124, 32] ++ bs b = _
  rw [bs_append, bs_append, List.append_assoc]
theorem join_star (a : List UInt8) : bs a ++ (⟨#[42]⟩ : ByteArray) = bs (a ++ [42]) := by
  show bs a ++ bs [42] = _
  rw [bs_append]
set_option maxHeartbeats 64000000 in
theorem validjoined_walk (s t : List UInt8) (w : World) (hT : T10 w) (hU : U8T w) (hs : s.length ≤ 9223372036854775807) (ht : t.length ≤ 9223372036854775807) :
    Calls Tryz.prog 6 #[.string (bs s), .string (bs t)] w (Ans w (.bool true)) := by
  have HS : Hid (TbS w w) := ⟨Below.refl _ _, hT, hU⟩
  clear hT hU
  go_enter Tryz.func6, Tryz.ntmps6
  go_wp2_with fail
  refine (awake9_any _ HS.out.u).mono ?_; rintro e w1 ⟨rfl, hb⟩
  have HS1 := Lib.hid (HS.out.later hb)
  clear hb HS
  by_cases h3 : 300 < s.length ∨ 300 < t.length
  · have big : ∀ P : Prop, (300 < s.length → P) → (¬ 300 < s.length → 300 < t.length → P) → P := fun P h k => by
      by_cases h4 : 300 < s.length
      · exact h h4
      · exact k h4 (by omega)
    refine big _ (fun h4 => ?_) (fun h4 h5 => ?_)
    · have hz : ((bs s).size : Int) > 300 := by rw [bs_size]; omega
      clear h3 big
      go_wp2_with fail
      refine (awake9_any _ HS1.out.u).mono ?_; rintro e w2 ⟨rfl, hb⟩
      have HSX := Lib.hid (HS1.out.later hb).bel
      clear hb HS1
      go_wp2
      go_ret
      exact ⟨rfl, HSX.out⟩
    · have hz : ¬ ((bs s).size : Int) > 300 := by rw [bs_size]; omega
      have hz2 : ((bs t).size : Int) > 300 := by rw [bs_size]; omega
      clear h3 big
      go_wp2_with fail
      refine (awake9_any _ HS1.out.u).mono ?_; rintro e w2 ⟨rfl, hb⟩
      have HSX := Lib.hid (HS1.out.later hb).bel
      clear hb HS1
      go_wp2
      go_ret
      exact ⟨rfl, HSX.out⟩
  · have hz : ¬ ((bs s).size : Int) > 300 := by rw [bs_size]; omega
    have hz2 : ¬ ((bs t).size : Int) > 300 := by rw [bs_size]; omega
    have LS : Hid (s.length ≤ 300 ∧ t.length ≤ 300) := by unfold Hid; omega
    have R1 : Hid (∀ w', TbS w w' → Calls Tryz.prog 8 #[.string (bs s)] w' (PVal w' (validL s))) := fun w' h => vread_any (by have := LS.out; omega) w' h.u
    have R2 : Hid (∀ w', TbS w w' → Calls Tryz.prog 8 #[.string (bs t)] w' (PVal w' (validL t))) := fun w' h => vread_any (by have := LS.out; omega) w' h.u
    clear h3
    cases hr : validL s with
    | bad er p =>
      have hne : (er != 0) = true := by rw [bne_iff_ne]; exact vr_code hr
      rw [hr] at R1
      clear hr
      go_wp2_with fail
      refine (R1.out _ HS1.out).mono ?_; rintro e w2 ⟨rfl, hb⟩
      have HS2 := Lib.hid (HS1.out.later (hb.trans ((Below.refl _ _).alloc hb.size (.cells #[.slice none 0 0] 25))))
      clear hb HS1 R1
      go_upto_region 4 with (fail)
      generalize w2.alloc (.cells #[.slice none 0 0] 25) = w3 at *
      go_wp2_with fail
      refine (R2.out _ HS2.out).mono ?_; intro e w4 hp
      obtain ⟨an, n, kn, er2, p2, rfl, hb⟩ := hp.any
      have HSX := Lib.hid (HS2.out.later (hb.trans ((Below.refl _ _).alloc hb.size (.cells #[.slice an n kn] 25)))).bel
      clear hb HS2 R2 hp
      go_wp2
      go_ret
      exact ⟨rfl, HSX.out⟩
    | ok D =>
      have ok1 := valid_ok hr
      have HP1 := Lib.hid (ok1.pr (by have := LS.out; omega))
      have HR1 := Lib.hid hr
      obtain ⟨n, hn⟩ : ∃ n, D.length = n := ⟨_, rfl⟩
      have HN := Lib.hid hn
      have hn4 : n ≤ 602 := by have := ok1.few; have := LS.out; omega
      rw [hr] at R1
      clear hr ok1 hn
      go_wp2_with fail
      refine (R1.out _ HS1.out).mono ?_; rintro e w2 ⟨nv, rfl, ho, hb⟩
      obtain ⟨an, kn, rfl, hkn, hrow⟩ := ho.parts
      rw [HN.out] at hkn ⊢
      have HS2 : Hid (TdS w w2.heap.size an n kn D _) := TdS.new HS1.out hb hrow
      have HK := Lib.hid hkn
      clear hb ho hrow hkn HS1 R1
      go_upto_region 4 with (fail)
      generalize w2.alloc (.cells #[.slice an n kn] 25) = w3 at *
      generalize w2.heap.size = b at *
      cases hr : validL t with
      | bad er p =>
        have hne : (er != 0) = true := by rw [bne_iff_ne]; exact vr_code hr
        rw [hr] at R2
        clear hr
        go_wp2_with fail
        refine (R2.out _ HS2.out.s).mono ?_; rintro e w4 ⟨rfl, hb⟩
        have HSX := Lib.hid (HS2.out.s.later (hb.trans ((Below.refl _ _).alloc hb.size (.cells #[.slice none 0 0] 25)))).bel
        clear hb HS2 R2
        go_wp2
        go_ret
        exact ⟨rfl, HSX.out⟩
      | ok E =>
        have ok2 := valid_ok hr
        have HP2 := Lib.hid (ok2.pr (by have := LS.out; omega))
        have HR2 := Lib.hid hr
        obtain ⟨m, hm⟩ : ∃ m, E.length = m := ⟨_, rfl⟩
        have HM := Lib.hid hm
        have hm4 : m ≤ 602 := by have := ok2.few; have := LS.out; omega
        rw [hr] at R2
        clear hr ok2 hm
        go_wp2_with fail
        refine (R2.out _ HS2.out.s).mono ?_; rintro e w4 ⟨nv, rfl, ho, hb⟩
        obtain ⟨am, km, rfl, hkm, hrow⟩ := ho.parts
        rw [HM.out] at hkm ⊢
        have HS4 : Hid (T2S w b an n kn D w4.heap.size am m km E _) := ⟨HS2.out.later (hb.trans ((Below.refl _ _).alloc hb.size (.cells #[.slice am m km] 25))), TdS.new HS2.out.s hb hrow⟩
        have HKM := Lib.hid hkm
        clear hb ho hrow hkm HS2 R2
        go_upto_region 5 with (fail)
        generalize w4.alloc (.cells #[.slice am m km] 25) = w5 at *
        generalize w4.heap.size = c at *
        have CD : Hid (∀ w', T2S w b an n kn D c am m km E w' → Calls Tryz.prog 14 #[.agg #[.slice an n kn]] w' (Ans w' (.int .i64 ((deepN D : Nat) : Int)))) := fun w' h => (h.d.isD HN.out HK.out).pdeep HP1.out h.d.s.t rfl
        have CE : Hid (∀ w', T2S w b an n kn D c am m km E w' → Calls Tryz.prog 14 #[.agg #[.slice am m km]] w' (Ans w' (.int .i64 ((deepN E : Nat) : Int)))) := fun w' h => (h.e.isD HM.out HKM.out).pdeep HP2.out h.e.s.t rfl
        have e0 := HS4.out.d.box.cell 0
        have e1 := HS4.out.e.box.cell 0
        simp at e0 e1
        by_cases d1 : 60 ≤ deepN D
        · have d1z : ((deepN D : Nat) : Int) ≥ 60 := by omega
          clear d1
          generalize deepN D = dp at *
          go_wp2_with fail
          refine (CD.out _ HS4.out).mono ?_; rintro e y1 ⟨rfl, hb⟩
          have HSX := Lib.hid (HS4.out.later hb).d.s.bel
          clear hb HS4 e0 e1
          go_wp2
          go_ret
          exact ⟨rfl, HSX.out⟩
        have d1z : ¬ ((deepN D : Nat) : Int) ≥ 60 := by omega
        clear d1
        generalize deepN D = dp at *
        go_wp2_with fail
        refine (CD.out _ HS4.out).mono ?_; rintro e y1 ⟨rfl, hb⟩
        have HS6 := Lib.hid (HS4.out.later hb)
        clear hb HS4 e0 e1 CD
        have e0 := HS6.out.d.box.cell 0
        have e1 := HS6.out.e.box.cell 0
        simp at e0 e1
        by_cases d2 : 60 ≤ deepN E
        · have d2z : ((deepN E : Nat) : Int) ≥ 60 := by omega
          clear d2
          generalize deepN E = dq at *
          go_wp2_with fail
          refine (CE.out _ HS6.out).mono ?_; rintro e y2 ⟨rfl, hb⟩
          have HSX := Lib.hid (HS6.out.later hb).d.s.bel
          clear hb HS6 e0 e1
          go_wp2
          go_ret
          exact ⟨rfl, HSX.out⟩
        have d2z : ¬ ((deepN E : Nat) : Int) ≥ 60 := by omega
        clear d2
        generalize deepN E = dq at *
        go_wp2_with fail
        refine (CE.out _ HS6.out).mono ?_; rintro e y2 ⟨rfl, hb⟩
        have HS7 := Lib.hid (HS6.out.later hb)
        clear hb HS6 e0 e1 CE
        by_cases l1 : 200 < s.length
        · have l1z : ((bs s).size : Int) > 200 := by rw [bs_size]; omega
          have HSX := Lib.hid HS7.out.d.s.bel
          clear l1
          go_wp2
          go_ret
          exact ⟨rfl, HSX.out⟩
        have l1z : ¬ ((bs s).size : Int) > 200 := by rw [bs_size]; omega
        by_cases l2 : 200 < t.length
        · have l2z : ((bs t).size : Int) > 200 := by rw [bs_size]; omega
          have HSX := Lib.hid HS7.out.d.s.bel
          clear l1 l2
          go_wp2
          go_ret
          exact ⟨rfl, HSX.out⟩
        have l2z : ¬ ((bs t).size : Int) > 200 := by rw [bs_size]; omega
        clear l1 l2
        go_upto_region 9 with (fail)
        rw [join_a, join_b]
        have la : (brT_ s).length ≤ 302 := by unfold brT_; simp only [List.length_cons, List.length_append, List.length_nil]; have := LS.out; omega
        have lb : (brS t).length ≤ 304 := by unfold brS; simp only [List.length_cons, List.length_append, List.length_nil]; have := LS.out; omega
        have RX : Hid (∀ w', TbS w w' → Calls Tryz.prog 8 #[.string (bs (brT_ s ++ brS t))] w' (PVal w' (validL (brT_ s ++ brS t)))) := fun w' h => vread_any (by rw [List.length_append]; omega) w' h.u
        have RY : Hid (∀ w', TbS w w' → Calls Tryz.prog 8 #[.string (bs (brT_ s ++ ([32, 124, 32] ++ brS t)))] w' (PVal w' (validL (brT_ s ++ ([32, 124, 32] ++ brS t))))) := fun w' h => vread_any (by rw [List.length_append, List.length_append]; simp only [List.length_cons, List.length_nil]; omega) w' h.u
        have RZ : Hid (∀ w', TbS w w' → Calls Tryz.prog 8 #[.string (bs (brT_ s ++ [42]))] w' (PVal w' (validL (brT_ s ++ [42])))) := fun w' h => vread_any (by rw [List.length_append]; simp only [List.length_cons, List.length_nil]; omega) w' h.u
        have CX : Hid (bs (brT_ s) ++ bs (brS t) = bs (brT_ s ++ brS t)) := bs_append _ _
        have CY : Hid (bs (brT_ s) ++ (⟨#[32, 124, 32]⟩ : ByteArray) ++ bs (brS t) = bs (brT_ s ++ ([32, 124, 32] ++ brS t))) := join_or _ _
        have CZ : Hid (bs (brT_ s) ++ (⟨#[42]⟩ : ByteArray) = bs (brT_ s ++ [42])) := join_star _
        have za : (bs (brT_ s)).size ≤ 302 := by rw [bs_size]; exact la
        have zb : (bs (brS t)).size ≤ 304 := by rw [bs_size]; exact lb
        rcases valid_both HR1.out HR2.out LS.out.1 LS.out.2 with hbo | ⟨p, hp⟩
        · have HBO := Lib.hid hbo
          have FD := Lib.hid HP1.out.form
          have SD : Hid (Sd D) := ⟨HP1.out.form, HP1.out.len, fun x hx => Nat.le_trans (HP1.out.txt x hx) (by omega)⟩
          have SE : Hid (Sd E) := ⟨HP2.out.form, HP2.out.len, fun x hx => Nat.le_trans (HP2.out.txt x hx) (by omega)⟩
          have SM : Hid (Sm D) := ⟨HP1.out.form, HP1.out.len, fun x hx => Nat.le_trans (HP1.out.txt x hx) (by omega)⟩
          have hpos : 1 ≤ n := by have := HP1.out.form.1; have := HN.out; omega
          rw [HBO.out.row] at RX
          rw [HBO.out.or] at RY
          have HSTAR : Hid (wyN D (n - 1) = 0 → validL (brT_ s ++ [42]) = .ok (wrapL 6 0 0 D)) := by rw [← HN.out]; exact HBO.out.star
          have HNULL : Hid (0 < wyN D (n - 1) → validL (brT_ s ++ [42]) = .bad 10 ((brT_ s).length : Nat)) := by rw [← HN.out]; exact HBO.out.null
          obtain ⟨N, hN⟩ : ∃ N, n + m + 1 = N := ⟨_, rfl⟩
          obtain ⟨M, hM⟩ : ∃ M, n + 1 = M := ⟨_, rfl⟩
          have nx : (pairL 4 D E).length = N := by rw [pairL_len, HN.out, HM.out, hN]
          have ny : (pairL 5 D E).length = N := by rw [pairL_len, HN.out, HM.out, hN]
          have nz : (wrapL 6 0 0 D).length = M := by rw [wrapL_len, HN.out, hM]
          have bN : N ≤ 1300 := by omega
          have bM : M ≤ 1300 := by omega
          clear hN hM
          have PX : Hid (∀ w', T2S w b an n kn D c am m km E w' → Calls Tryz.prog 18 #[.int .i64 4, .agg #[.slice an n kn], .agg #[.slice am m km]] w' (DPost w' (pairL 4 D E))) := fun w' h => (h.d.isD HN.out HK.out).rpair' (h.e.isD HM.out HKM.out) SD.out SE.out 4
          have PY : Hid (∀ w', T2S w b an n kn D c am m km E w' → Calls Tryz.prog 18 #[.int .i64 5, .agg #[.slice an n kn], .agg #[.slice am m km]] w' (DPost w' (pairL 5 D E))) := fun w' h => (h.d.isD HN.out HK.out).rpair' (h.e.isD HM.out HKM.out) SD.out SE.out 5
          have PZ : Hid (∀ w', T2S w b an n kn D c am m km E w' → Calls Tryz.prog 20 #[.int .i64 6, .int .i64 0, .int .i64 0, .agg #[.slice an n kn]] w' (DPost w' (wrapL 6 0 0 D))) := fun w' h => (h.d.isD HN.out HK.out).rwrap' SD.out 6 0 0
          have CW : Hid (∀ w', T2S w b an n kn D c am m km E w' → Calls Tryz.prog 19 #[.agg #[.slice an n kn], .int .i64 ((n : Int) - 1)] w' (Ans w' (.int .i64 ((wyN D (n - 1) : Nat) : Int)))) := fun w' h => by
            have q := (h.d.isD HN.out HK.out).rways SM.out (i := n - 1) (by have := HN.out; omega) rfl
            rwa [show ((n - 1 : Nat) : Int) = (n : Int) - 1 by omega] at q
          have NX := Lib.hid nx
          have NY := Lib.hid ny
          have NZ := Lib.hid nz
          clear hbo HBO nx ny nz SD SE SM FD HP1 HP2 HR1 HR2 la lb
          have hsa : (bs (brT_ s)).size = (brT_ s).length := bs_size _
          generalize hln : (brT_ s).length = na at *
          have hna : (((bs (brT_ s)).size : Nat) : Int) = (na : Int) := by rw [hsa]
          clear hsa hln
          generalize pairL 4 D E = X at *
          generalize pairL 5 D E = Y at *
          generalize wrapL 6 0 0 D = Z at *
          generalize wyN D (n - 1) = wy at *
          have HNA := Lib.hid hna
          clear hna
          go_wp2_with fail
          rw [CX.out]
          refine (RX.out _ HS7.out.d.s).mono ?_; rintro e x1 ⟨nv, rfl, ho, hb⟩
          obtain ⟨ax, kx, rfl, hkx, hrow⟩ := ho.parts
          rw [NX.out] at hkx ⊢
          have hb2 := hb.trans ((Below.refl _ _).alloc hb.size (.cells #[.slice ax N kx] 25))
          have HX : Hid (TdS w x1.heap.size ax N kx X _) := TdS.new HS7.out.d.s hb hrow
          have HS8 := Lib.hid (HS7.out.later hb2)
          have HKX := Lib.hid hkx
          clear hb hb2 ho hrow hkx HS7 RX
          go_upto_region 10 with (fail)
          generalize x1.alloc (.cells #[.slice ax N kx] 25) = x2 at *
          generalize x1.heap.size = bx at *
          go_wp2_with fail
          rw [CY.out]
          refine (RY.out _ HS8.out.d.s).mono ?_; rintro e x3 ⟨nv, rfl, ho, hb⟩
          obtain ⟨ay, ky, rfl, hky, hrow⟩ := ho.parts
          rw [NY.out] at hky ⊢
          have hb2 := hb.trans ((Below.refl _ _).alloc hb.size (.cells #[.slice ay N ky] 25))
          have HY : Hid (TdS w x3.heap.size ay N ky Y _) := TdS.new HS8.out.d.s hb hrow
          have HX4 := Lib.hid (HX.out.later hb2)
          have HS9 := Lib.hid (HS8.out.later hb2)
          have HKY := Lib.hid hky
          clear hb hb2 ho hrow hky HS8 RY HX
          go_upto_region 11 with (fail)
          generalize x3.alloc (.cells #[.slice ay N ky] 25) = x4 at *
          generalize x3.heap.size = by_ at *
          by_cases hwy : wy = 0
          · have hz := HSTAR.out hwy
            rw [hz] at RZ
            subst hwy
            clear hz HSTAR HNULL
            go_wp2_with fail
            rw [CZ.out]
            refine (RZ.out _ HS9.out.d.s).mono ?_; rintro e x5 ⟨nv, rfl, ho, hb⟩
            obtain ⟨az, kz, rfl, hkz, hrow⟩ := ho.parts
            rw [NZ.out] at hkz ⊢
            have hb2 := hb.trans ((Below.refl _ _).alloc hb.size (.cells #[.slice az M kz] 25))
            have HZ : Hid (TdS w x5.heap.size az M kz Z _) := TdS.new HS9.out.d.s hb hrow
            have HSQ : Hid (T4S w b an n kn D c am m km E bx ax N kx X by_ ay N ky Y _) := ⟨HS9.out.later hb2, HX4.out.later hb2, HY.out.later hb2⟩
            have HKZ := Lib.hid hkz
            clear hb hb2 ho hrow hkz HS9 RZ HX4 HY
            go_upto_region 12 with (fail)
            generalize x5.alloc (.cells #[.slice az M kz] 25) = x6 at *
            generalize x5.heap.size = bz at *
            have HSQ : Hid (T5S w b an n kn D c am m km E bx ax N kx X by_ ay N ky Y bz az M kz Z x6) := ⟨HSQ.out, HZ.out⟩
            clear HZ
            have SX : Hid (∀ w' v, TdS w bx ax N kx X w' → IsD X v w' → Calls Tryz.prog 10 #[.agg #[.slice ax N kx], v] w' (Ans w' (.bool true))) := fun w' v h k => isD_same (h.isD NX.out HKX.out) k (by rw [NX.out]; omega) (by rw [NX.out]; omega) (decide_eq_true rfl)
            have SY : Hid (∀ w' v, TdS w by_ ay N ky Y w' → IsD Y v w' → Calls Tryz.prog 10 #[.agg #[.slice ay N ky], v] w' (Ans w' (.bool true))) := fun w' v h k => isD_same (h.isD NY.out HKY.out) k (by rw [NY.out]; omega) (by rw [NY.out]; omega) (decide_eq_true rfl)
            go_upto_region 14 with (fail)
            refine wp_region_stable (S := (T5S w b an n kn D c am m km E bx ax N kx X by_ ay N ky Y bz az M kz Z)) (hSt := fun _ _ h hb => h.later hb) (plan := [[(14, none)], [(113, some 0)], [(114, some 1)], [(17, none)], [(116, some 3)], [(115, some 2), (117, some 4)], [(118, some 5)], [(13, none)], [(5, none)], [(8, none)], [(121, some 8), (122, some 9)], [(120, some 7), (123, some 10)], [(124, some 11)], [(119, some 6), (125, some 12)], [(126, some 13)], [(16, none)], [(5, none)], [(8, none)], [(129, some 16), (130, some 17)], [(128, some 15), (131, some 18)], [(132, some 19)], [(127, some 14), (133, some 20)]]) (by kernel_rfl) (by kernel_rfl) (by kernel_rfl) ?hS ?_
            rotate_left
            iterate 10 first
              | (refine chain_skip (by rfl) (by rfl) ?_)
              | (apply chain_want (by rfl)
                 · intro act wx hS hr
                   simp at hr
                   have e0 := hS.q.t.d.box.cell 0
                   have e1 := hS.q.t.e.box.cell 0
                   have e2 := hS.q.x.box.cell 0
                   have e3 := hS.q.y.box.cell 0
                   simp at e0 e1 e2 e3
                   go_simp
                   (try go_ints)
                   first
                     | (obtain ⟨hr3, v, hr2, hv⟩ := hr; simp only [hr2, Option.getD_some]; (with_reducible refine (SX.out _ _ hS.q.x hv).mono ?_); rintro e w' ⟨rfl, hb⟩; exact Done.mk (v := .bool true) hb)
                     | (obtain ⟨hr3, v, hr2, hv⟩ := hr; simp only [hr2, Option.getD_some]; (with_reducible refine (SY.out _ _ hS.q.y hv).mono ?_); rintro e w' ⟨rfl, hb⟩; exact Done.mk (v := .bool true) hb)
                     | exact Done.same
                )
            (refine chain_rel (IsD X) (IsD.later _) (by rfl) ?_ ?_
             · intro act wx hS hr
               simp at hr
               have e0 := hS.q.t.d.box.cell 0
               have e1 := hS.q.t.e.box.cell 0
               have e2 := hS.q.x.box.cell 0
               have e3 := hS.q.y.box.cell 0
               simp at e0 e1 e2 e3
               all_goals go_simp
               ((with_reducible refine (PX.out _ hS.q.t).mono ?_); intro e w' hp; obtain ⟨v, rfl, ho, hb⟩ := hp; exact Done.rel hb ho.isD)
            )
            iterate 7 first
              | (refine chain_skip (by rfl) (by rfl) ?_)
              | (apply chain_want (by rfl)
                 · intro act wx hS hr
                   simp at hr
                   have e0 := hS.q.t.d.box.cell 0
                   have e1 := hS.q.t.e.box.cell 0
                   have e2 := hS.q.x.box.cell 0
                   have e3 := hS.q.y.box.cell 0
                   simp at e0 e1 e2 e3
                   go_simp
                   (try go_ints)
                   first
                     | (obtain ⟨hr3, v, hr2, hv⟩ := hr; simp only [hr2, Option.getD_some]; (with_reducible refine (SX.out _ _ hS.q.x hv).mono ?_); rintro e w' ⟨rfl, hb⟩; exact Done.mk (v := .bool true) hb)
                     | (obtain ⟨hr3, v, hr2, hv⟩ := hr; simp only [hr2, Option.getD_some]; (with_reducible refine (SY.out _ _ hS.q.y hv).mono ?_); rintro e w' ⟨rfl, hb⟩; exact Done.mk (v := .bool true) hb)
                     | exact Done.same
                )
            (refine chain_rel (IsD Y) (IsD.later _) (by rfl) ?_ ?_
             · intro act wx hS hr
               simp at hr
               have e0 := hS.q.t.d.box.cell 0
               have e1 := hS.q.t.e.box.cell 0
               have e2 := hS.q.x.box.cell 0
               have e3 := hS.q.y.box.cell 0
               simp at e0 e1 e2 e3
               all_goals go_simp
               ((with_reducible refine (PY.out _ hS.q.t).mono ?_); intro e w' hp; obtain ⟨v, rfl, ho, hb⟩ := hp; exact Done.rel hb ho.isD)
            )
            iterate 3 first
              | (refine chain_skip (by rfl) (by rfl) ?_)
              | (apply chain_want (by rfl)
                 · intro act wx hS hr
                   simp at hr
                   have e0 := hS.q.t.d.box.cell 0
                   have e1 := hS.q.t.e.box.cell 0
                   have e2 := hS.q.x.box.cell 0
                   have e3 := hS.q.y.box.cell 0
                   simp at e0 e1 e2 e3
                   go_simp
                   (try go_ints)
                   first
                     | (obtain ⟨hr3, v, hr2, hv⟩ := hr; simp only [hr2, Option.getD_some]; (with_reducible refine (SX.out _ _ hS.q.x hv).mono ?_); rintro e w' ⟨rfl, hb⟩; exact Done.mk (v := .bool true) hb)
                     | (obtain ⟨hr3, v, hr2, hv⟩ := hr; simp only [hr2, Option.getD_some]; (with_reducible refine (SY.out _ _ hS.q.y hv).mono ?_); rintro e w' ⟨rfl, hb⟩; exact Done.mk (v := .bool true) hb)
                     | exact Done.same
                )
            show ∀ w', _ → _
            intro wz hz
            simp [Act.put]
            case hS => exact HSQ.out
            have HSR := Lib.hid hz
            clear hz HSQ PX PY SX SY
            intros
            have e0 := HSR.out.q.t.d.box.cell 0
            simp at e0
            have hnz : (0 : Int) ≤ (n : Int) - 1 := by omega
            have hnz2 : (n : Int) - 1 ≤ 602 := by omega
            go_wp2_with fail
            refine (CW.out _ HSR.out.q.t).mono ?_; rintro e y3 ⟨rfl, hb⟩
            have HSV := Lib.hid (HSR.out.later hb)
            clear hb HSR e0 CW hnz hnz2
            have SZ : Hid (∀ w' v, TdS w bz az M kz Z w' → IsD Z v w' → Calls Tryz.prog 10 #[.agg #[.slice az M kz], v] w' (Ans w' (.bool true))) := fun w' v h k => isD_same (h.isD NZ.out HKZ.out) k (by rw [NZ.out]; omega) (by rw [NZ.out]; omega) (decide_eq_true rfl)
            go_upto_region 18 with (fail)
            refine wp_region_stable (S := (T5S w b an n kn D c am m km E bx ax N kx X by_ ay N ky Y bz az M kz Z)) (hSt := fun _ _ h hb => h.later hb) (plan := [[(20, none)], [(150, some 0)], [(151, some 1)], [(19, none)], [(5, none)], [(154, some 4)], [(153, some 3), (155, some 5)], [(152, some 2), (156, some 6)], [(157, some 7)]]) (by kernel_rfl) (by kernel_rfl) (by kernel_rfl) ?hS ?_
            rotate_left
            iterate 5 first
              | (refine chain_skip (by rfl) (by rfl) ?_)
              | (apply chain_want (by rfl)
                 · intro act wx hS hr
                   simp at hr
                   have e0 := hS.q.t.d.box.cell 0
                   have e5 := hS.z.box.cell 0
                   simp at e0 e5
                   go_simp
                   (try go_ints)
                   first
                     | (obtain ⟨hr3, v, hr2, hv⟩ := hr; simp only [hr2, Option.getD_some]; (with_reducible refine (SZ.out _ _ hS.z hv).mono ?_); rintro e w' ⟨rfl, hb⟩; exact Done.mk (v := .bool true) hb)
                     | exact Done.same
                )
            (refine chain_rel (IsD Z) (IsD.later _) (by rfl) ?_ ?_
             · intro act wx hS hr
               simp at hr
               have e0 := hS.q.t.d.box.cell 0
               have e5 := hS.z.box.cell 0
               simp at e0 e5
               all_goals go_simp
               ((with_reducible refine (PZ.out _ hS.q.t).mono ?_); intro e w' hp; obtain ⟨v, rfl, ho, hb⟩ := hp; exact Done.rel hb ho.isD)
            )
            iterate 3 first
              | (refine chain_skip (by rfl) (by rfl) ?_)
              | (apply chain_want (by rfl)
                 · intro act wx hS hr
                   simp at hr
                   have e0 := hS.q.t.d.box.cell 0
                   have e5 := hS.z.box.cell 0
                   simp at e0 e5
                   go_simp
                   (try go_ints)
                   first
                     | (obtain ⟨hr3, v, hr2, hv⟩ := hr; simp only [hr2, Option.getD_some]; (with_reducible refine (SZ.out _ _ hS.z hv).mono ?_); rintro e w' ⟨rfl, hb⟩; exact Done.mk (v := .bool true) hb)
                     | exact Done.same
                )
            show ∀ w', _ → _
            intro wz hz
            simp [Act.put]
            case hS => exact HSV.out
            have HSX := Lib.hid hz.q.t.d.s.bel
            clear hz HSV
            intros
            go_wp2
            go_ret
            exact ⟨by first | rfl | simp, HSX.out⟩
          · have hz := HNULL.out (by omega)
            rw [hz] at RZ
            have hwp : (0 : Int) < (wy : Int) := by omega
            clear hz HSTAR HNULL hwy PZ
            go_wp2_with fail
            rw [CZ.out]
            refine (RZ.out _ HS9.out.d.s).mono ?_; rintro e x5 ⟨rfl, hb⟩
            have hb2 := hb.trans ((Below.refl _ _).alloc hb.size (.cells #[.slice none 0 0] 25))
            have HSQ : Hid (T4S w b an n kn D c am m km E bx ax N kx X by_ ay N ky Y _) := ⟨HS9.out.later hb2, HX4.out.later hb2, HY.out.later hb2⟩
            clear hb hb2 HS9 RZ HX4 HY
            go_upto_region 12 with (fail)
            generalize x5.alloc (.cells #[.slice none 0 0] 25) = x6 at *
            have SX : Hid (∀ w' v, TdS w bx ax N kx X w' → IsD X v w' → Calls Tryz.prog 10 #[.agg #[.slice ax N kx], v] w' (Ans w' (.bool true))) := fun w' v h k => isD_same (h.isD NX.out HKX.out) k (by rw [NX.out]; omega) (by rw [NX.out]; omega) (decide_eq_true rfl)
            have SY : Hid (∀ w' v, TdS w by_ ay N ky Y w' → IsD Y v w' → Calls Tryz.prog 10 #[.agg #[.slice ay N ky], v] w' (Ans w' (.bool true))) := fun w' v h k => isD_same (h.isD NY.out HKY.out) k (by rw [NY.out]; omega) (by rw [NY.out]; omega) (decide_eq_true rfl)
            go_upto_region 14 with (fail)
            refine wp_region_stable (S := (T4S w b an n kn D c am m km E bx ax N kx X by_ ay N ky Y)) (hSt := fun _ _ h hb => h.later hb) (plan := [[(14, none)], [(113, some 0)], [(114, some 1)], [(17, none)], [(116, some 3)], [(115, some 2), (117, some 4)], [(118, some 5)], [(13, none)], [(5, none)], [(8, none)], [(121, some 8), (122, some 9)], [(120, some 7), (123, some 10)], [(124, some 11)], [(119, some 6), (125, some 12)], [(126, some 13)], [(16, none)], [(5, none)], [(8, none)], [(129, some 16), (130, some 17)], [(128, some 15), (131, some 18)], [(132, some 19)], [(127, some 14), (133, some 20)]]) (by kernel_rfl) (by kernel_rfl) (by kernel_rfl) ?hS ?_
            rotate_left
            iterate 10 first
              | (refine chain_skip (by rfl) (by rfl) ?_)
              | (apply chain_want (by rfl)
                 · intro act wx hS hr
                   simp at hr
                   have e0 := hS.t.d.box.cell 0
                   have e1 := hS.t.e.box.cell 0
                   have e2 := hS.x.box.cell 0
                   have e3 := hS.y.box.cell 0
                   simp at e0 e1 e2 e3
                   go_simp
                   (try go_ints)
                   first
                     | (obtain ⟨hr3, v, hr2, hv⟩ := hr; simp only [hr2, Option.getD_some]; (with_reducible refine (SX.out _ _ hS.x hv).mono ?_); rintro e w' ⟨rfl, hb⟩; exact Done.mk (v := .bool true) hb)
                     | (obtain ⟨hr3, v, hr2, hv⟩ := hr; simp only [hr2, Option.getD_some]; (with_reducible refine (SY.out _ _ hS.y hv).mono ?_); rintro e w' ⟨rfl, hb⟩; exact Done.mk (v := .bool true) hb)
                     | exact Done.same
                )
            (refine chain_rel (IsD X) (IsD.later _) (by rfl) ?_ ?_
             · intro act wx hS hr
               simp at hr
               have e0 := hS.t.d.box.cell 0
               have e1 := hS.t.e.box.cell 0
               have e2 := hS.x.box.cell 0
               have e3 := hS.y.box.cell 0
               simp at e0 e1 e2 e3
               all_goals go_simp
               ((with_reducible refine (PX.out _ hS.t).mono ?_); intro e w' hp; obtain ⟨v, rfl, ho, hb⟩ := hp; exact Done.rel hb ho.isD)
            )
            iterate 7 first
              | (refine chain_skip (by rfl) (by rfl) ?_)
              | (apply chain_want (by rfl)
                 · intro act wx hS hr
                   simp at hr
                   have e0 := hS.t.d.box.cell 0
                   have e1 := hS.t.e.box.cell 0
                   have e2 := hS.x.box.cell 0
                   have e3 := hS.y.box.cell 0
                   simp at e0 e1 e2 e3
                   go_simp
                   (try go_ints)
                   first
                     | (obtain ⟨hr3, v, hr2, hv⟩ := hr; simp only [hr2, Option.getD_some]; (with_reducible refine (SX.out _ _ hS.x hv).mono ?_); rintro e w' ⟨rfl, hb⟩; exact Done.mk (v := .bool true) hb)
                     | (obtain ⟨hr3, v, hr2, hv⟩ := hr; simp only [hr2, Option.getD_some]; (with_reducible refine (SY.out _ _ hS.y hv).mono ?_); rintro e w' ⟨rfl, hb⟩; exact Done.mk (v := .bool true) hb)
                     | exact Done.same
                )
            (refine chain_rel (IsD Y) (IsD.later _) (by rfl) ?_ ?_
             · intro act wx hS hr
               simp at hr
               have e0 := hS.t.d.box.cell 0
               have e1 := hS.t.e.box.cell 0
               have e2 := hS.x.box.cell 0
               have e3 := hS.y.box.cell 0
               simp at e0 e1 e2 e3
               all_goals go_simp
               ((with_reducible refine (PY.out _ hS.t).mono ?_); intro e w' hp; obtain ⟨v, rfl, ho, hb⟩ := hp; exact Done.rel hb ho.isD)
            )
            iterate 3 first
              | (refine chain_skip (by rfl) (by rfl) ?_)
              | (apply chain_want (by rfl)
                 · intro act wx hS hr
                   simp at hr
                   have e0 := hS.t.d.box.cell 0
                   have e1 := hS.t.e.box.cell 0
                   have e2 := hS.x.box.cell 0
                   have e3 := hS.y.box.cell 0
                   simp at e0 e1 e2 e3
                   go_simp
                   (try go_ints)
                   first
                     | (obtain ⟨hr3, v, hr2, hv⟩ := hr; simp only [hr2, Option.getD_some]; (with_reducible refine (SX.out _ _ hS.x hv).mono ?_); rintro e w' ⟨rfl, hb⟩; exact Done.mk (v := .bool true) hb)
                     | (obtain ⟨hr3, v, hr2, hv⟩ := hr; simp only [hr2, Option.getD_some]; (with_reducible refine (SY.out _ _ hS.y hv).mono ?_); rintro e w' ⟨rfl, hb⟩; exact Done.mk (v := .bool true) hb)
                     | exact Done.same
                )
            show ∀ w', _ → _
            intro wz hz
            simp [Act.put]
            case hS => exact HSQ.out
            have HSR := Lib.hid hz
            clear hz HSQ PX PY SX SY
            intros
            have e0 := HSR.out.t.d.box.cell 0
            simp at e0
            have hnz : (0 : Int) ≤ (n : Int) - 1 := by omega
            have hnz2 : (n : Int) - 1 ≤ 602 := by omega
            go_wp2_with fail
            refine (CW.out _ HSR.out.t).mono ?_; rintro e y3 ⟨rfl, hb⟩
            have HSX := Lib.hid (HSR.out.later hb).t.d.s.bel
            clear hb HSR e0 CW hnz hnz2
            have hq : ((na : Int) == (((bs (brT_ s)).size : Nat) : Int)) = true := by rw [HNA.out, beq_self_eq_true]
            go_wp2
            go_ret
            exact ⟨by first | rfl | simp [hq] | (rw [HNA.out]; simp), HSX.out⟩
        · rw [hp] at RX
          have HT7 := Lib.hid HS7.out.d.s
          clear hp HS7 HP1 HP2 HR1 HR2 la lb
          generalize brT_ s = a at *
          generalize brS t = bb at *
          go_wp2_with fail
          rw [CX.out]
          refine (RX.out _ HT7.out).mono ?_; rintro e x1 ⟨rfl, hb⟩
          have HT8 := Lib.hid (HT7.out.later (hb.trans ((Below.refl _ _).alloc hb.size (.cells #[.slice none 0 0] 25))))
          clear hb HT7 RX
          go_upto_region 10 with (fail)
          generalize x1.alloc (.cells #[.slice none 0 0] 25) = x2 at *
          go_wp2_with fail
          rw [CY.out]
          refine (RY.out _ HT8.out).mono ?_; intro e x3 hp
          obtain ⟨ay, ny, ky, er2, p2, rfl, hb⟩ := hp.any
          have HT9 := Lib.hid (HT8.out.later (hb.trans ((Below.refl _ _).alloc hb.size (.cells #[.slice ay ny ky] 25))))
          clear hb HT8 RY hp
          go_upto_region 11 with (fail)
          generalize x3.alloc (.cells #[.slice ay ny ky] 25) = x4 at *
          go_wp2_with fail
          rw [CZ.out]
          refine (RZ.out _ HT9.out).mono ?_; intro e x5 hp
          obtain ⟨az, nz, kz, er3, p3, rfl, hb⟩ := hp.any
          have HSX := Lib.hid (HT9.out.later (hb.trans ((Below.refl _ _).alloc hb.size (.cells #[.slice az nz kz] 25)))).bel
          clear hb HT9 RZ hp
          go_wp2
          go_ret
          exact ⟨rfl, HSX.out⟩
end Go.Proofs.YtcgjmnhmhiddkaaGreatDoor
