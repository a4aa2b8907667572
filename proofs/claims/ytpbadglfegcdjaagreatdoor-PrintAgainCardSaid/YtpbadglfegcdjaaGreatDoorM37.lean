/- The statement PrintAgain of layer 6, walked. -/
import Derived.Test.YtpbadglfegcdjaaGreatDoorM34
import Derived.Test.YtpbadglfegcdjaaGreatDoorM35
import Derived.Test.YtpbadglfegcdjaaGreatDoorM36
import Derived.Test.YtpbadglfegcdjaaGreatDoorM33
namespace Go.Proofs.YtpbadglfegcdjaaGreatDoor
open Go Go.RowKit
set_option linter.unusedVariables false
set_option linter.unusedSimpArgs false
set_option maxRecDepth 100000

theorem MayP.endsG {l : List Tk} (h : MayP l) : TEnds l :=
  ⟨h.pos, (h.all _ (by have := h.pos; omega)).2.2.1.2 rfl, fun p hp e => by have := (h.all p (by omega)).2.2.1.1 e; omega⟩
theorem tk_idxG {l : List Tk} {t : Tk} (h : t ∈ l) : ∃ i, i < l.length ∧ tkAt l i = t := by
  obtain ⟨i, hi, e⟩ := List.getElem_of_mem h
  exact ⟨i, hi, by unfold tkAt; simp [hi, e]⟩
theorem MayP.okG {l : List Tk} (h : MayP l) : TkOk l := fun t ht => by
  obtain ⟨i, hi, rfl⟩ := tk_idxG ht
  exact (h.all i hi).2.2.2.2.2
theorem MayP.txtG {l : List Tk} (h : MayP l) (p : Nat) : (tkAt l p).text.length ≤ 100 := by
  by_cases hp : p < l.length
  · exact (h.all p hp).2.2.2.2.1
  · have : tkAt l p = tkEnd := by unfold tkAt; rw [List.getD_eq_getElem?_getD, List.getElem?_eq_none (by omega)]; rfl
    rw [this]; simp [tkEnd]
theorem MayP.parseG {l : List Tk} (h : MayP l) (A : Option Addr) (c : Nat) (w : World) (hrow : TkRow w A l) : Calls Tryz.prog 10 #[.slice A l.length c] w (PParse w (parseP l)) :=
  parse_any (fun p => Nat.le_trans (h.txtG p) (by decide)) h.endsG (by have := h.few; omega) A c w hrow
/-- Tokens, and the tables. -/
structure PgS (w0 : World) (A : Option Addr) (l : List Tk) (w : World) : Prop where
  bel : Below w0.heap.size w0 w
  row : TkRow w A l
  t : T10 w
  u : U8T w
theorem PgS.later {w0 w w' : World} {A : Option Addr} {l : List Tk} (h : PgS w0 A l w) (hb : Below w.heap.size w w') : PgS w0 A l w' := ⟨h.bel.trans (hb.mono h.bel.size), h.row.later hb, h.t.later hb, h.u.later hb⟩
/-- What was parsed, and the tables. -/
structure PhS (w0 : World) (bd : Nat) (an : Option Addr) (ns : List Nd) (N kn : Nat) (w : World) : Prop where
  bel : Below w0.heap.size w0 w
  t : T10 w
  u : U8T w
  d : Ds bd an ns N kn w
theorem PhS.later {w0 w w' : World} {bd : Nat} {an : Option Addr} {ns : List Nd} {N kn : Nat} (h : PhS w0 bd an ns N kn w) (hb : Below w.heap.size w w') : PhS w0 bd an ns N kn w' := ⟨h.bel.trans (hb.mono h.bel.size), h.t.later hb, h.u.later hb, h.d.later hb⟩
theorem ds_of' {l : List Nd} {w : World} {A : Option Addr} {n c : Nat} (hr : NRow w A l) (hl : l.length = n) (hc : n ≤ c) : Ds w.heap.size A l n c (w.alloc (.cells #[.slice A n c] 24)) := ds_of hr hl hc
set_option maxHeartbeats 64000000 in
theorem printagain_walk (l : List Tk) (A : Option Addr) (c : Nat) (hl : l.length ≤ 9223372036854775807) (w : World) (hrow : TkRow w A l) (hT : T10 w) (hU : U8T w) :
    Calls Tryz.prog 4 #[.slice A l.length c] w (Ans w (.bool true)) := by
  have HS0 : Hid (PgS w A l w) := ⟨Below.refl _ _, hrow, hT, hU⟩
  have MY : Hid (∀ w, TkRow w A l → Calls Tryz.prog 13 #[.slice A l.length c] w (MayPost l w)) := fun w h => may_any l A c hl w h
  clear hrow hT hU
  go_enter Tryz.func4, Tryz.ntmps4
  go_wp2_with fail
  refine (awake6_any _ HS0.out.t).mono ?_; rintro e w1 ⟨rfl, hb⟩
  have HS1 := Lib.hid (HS0.out.later hb)
  clear hb HS0
  go_wp2_with fail
  refine (MY.out _ HS1.out.row).mono ?_; intro e w2 hp
  obtain ⟨b, rfl, hmay, hb⟩ := hp
  have HS2 := Lib.hid (HS1.out.later hb)
  have HM := Lib.hid hmay
  clear hb HS1 hmay MY
  cases b with
  | false =>
    go_wp2_with fail
    refine (awake6_any _ HS2.out.t).mono ?_; rintro e w3 ⟨rfl, hb⟩
    have HS3 := Lib.hid (HS2.out.later hb)
    clear hb HS2
    go_wp2
    go_ret
    exact ⟨rfl, HS3.out.bel⟩
  | true =>
    have HM2 := Lib.hid (HM.out rfl)
    clear HM
    have hfew := HM2.out.few
    have PC := Lib.hid (HM2.out.parseG A c w2 HS2.out.row)
    obtain ⟨r, hr⟩ : ∃ r, parseP l = r := ⟨_, rfl⟩
    rw [hr] at PC
    have HP := Lib.hid hr
    clear hr
    go_wp2_with fail
    refine PC.out.mono ?_; intro e3 w3 hq
    clear PC
    cases r with
    | out => exact absurd hq id
    | bad er p =>
      obtain ⟨rfl, hb3⟩ := hq
      have hne : (er != 0) = true := by rw [bne_iff_ne]; have := parse_err HP.out; omega
      have HB4 := Lib.hid (((HS2.out.bel.trans (hb3.mono HS2.out.bel.size))).trans (((Below.refl w3.heap.size w3).alloc (Nat.le_refl _) (.cells #[.slice none 0 0] 24)).mono (HS2.out.bel.trans (hb3.mono HS2.out.bel.size)).size))
      clear hb3 HS2 HP HM2
      go_upto_region 4 with (fail)
      generalize w3.alloc (.cells #[.slice none 0 0] 24) = w4 at *
      go_wp2
      go_ret
      exact ⟨rfl, HB4.out⟩
    | ok k t =>
      obtain ⟨nv, av, rfl, hnn, -, hb3⟩ := hq
      obtain ⟨an, kn, rfl, hrn⟩ := hnn.row
      have hcap : t.nodes.length ≤ kn := by
        rcases hnn.2 with ⟨hv, hn⟩ | ⟨g, cap, cur, hv, hb, hg, hc, _⟩
        · rw [hn]; exact Nat.zero_le _
        · cases hv; exact hc
      obtain ⟨hfm, hfl⟩ := parse_form HM2.out.okG HP.out
      obtain ⟨hbn, hbt⟩ := parse_big HM2.out.okG HM2.out.txtG HP.out
      have HAG : Hid (deepN t.nodes ≤ 64 → ∃ toks, readL (textN t.nodes) 0 0 = .ok toks ∧ ∃ k2 t2, parseP (toks.map tkOfT) = .ok k2 t2 ∧ t2.nodes = t.nodes) := fun h => parse_again HM2.out.okG HP.out h
      clear HP HM2
      obtain ⟨ns, hns⟩ : ∃ ns, t.nodes = ns := ⟨_, rfl⟩
      rw [hns] at hrn hcap hfm hfl hbn hbt HAG ⊢
      clear hns hnn
      have PA : Hid (PrOk ns) := ⟨hfm, by omega, fun n hn => Nat.le_trans (hbt n hn) (by omega)⟩
      have hta : (textN ns).length ≤ 1000000 := Nat.le_trans (textN_lenH hfm hbt) (by omega)
      obtain ⟨N, hN⟩ : ∃ N, ns.length = N := ⟨_, rfl⟩
      rw [hN] at hcap hbn ⊢
      have hbb := hb3.trans ((Below.refl _ _).alloc hb3.size (.cells #[.slice an N kn] 24))
      have HS4 : Hid (PhS w w3.heap.size an ns N kn (w3.alloc (.cells #[.slice an N kn] 24))) := ⟨HS2.out.bel.trans (hbb.mono HS2.out.bel.size), HS2.out.t.later hbb, HS2.out.u.later hbb, ds_of' hrn hN hcap⟩
      have HNN := Lib.hid hN
      have hN4 : N ≤ 1000000 := by omega
      have CD : Hid (∀ w', PhS w w3.heap.size an ns N kn w' → Calls Tryz.prog 11 #[.agg #[.slice an N kn]] w' (Ans w' (.int .i64 ((deepN ns : Nat) : Int)))) := fun w' h => h.d.isD.pdeep PA.out h.t rfl
      have CT : Hid (∀ w' u, IsD ns u w' → T10 w' → Calls Tryz.prog 9 #[u] w' (Ans w' (.string (bs (textN ns))))) := fun w' u h ht => h.ptext PA.out ht
      have CS : Hid (∀ w' B c1, NRow w' B ns → NRow w' an ns → Calls Tryz.prog 12 #[.agg #[.slice B N c1], .agg #[.slice an N kn]] w' (Ans w' (.bool true))) := fun w' B c1 h1 h2 => by
        have q := refnsame_any ns ns B an c1 kn w' h1 h2 (by omega) (by omega)
        rwa [decide_eq_true rfl, hN] at q
      clear hrn hN hcap hfm hfl hbn hbt hbb hb3 HS2 PA hfew hl
      go_upto_region 4 with (fail)
      generalize w3.alloc (.cells #[.slice an N kn] 24) = w4 at *
      generalize w3.heap.size = bd at *
      have e0 := HS4.out.d.load
      go_wp2_with fail
      refine (CD.out _ HS4.out).mono ?_; rintro e w5 ⟨rfl, hb⟩
      have HS5 := Lib.hid (HS4.out.later hb)
      clear hb e0 HS4 CD
      by_cases hd : deepN ns ≤ 64
      · obtain ⟨toks, hr, k2, t2, hp, hn⟩ := HAG.out hd
        obtain ⟨M, hM⟩ : ∃ M, toks.length = M := ⟨_, rfl⟩
        have RD : Hid (∀ w', U8T w' → Calls Tryz.prog 8 #[.string (bs (textN ns))] w' (fun e w'' => ∃ At_ ct, e = .returned (.tuple #[.slice At_ M ct, .int .i64 0, .int .i64 0]) ∧ TRow w'' At_ toks ∧ Below w'.heap.size w' w'' ∧ M ≤ ct)) := fun w' h => read_okp hr hM w' h (by omega)
        have PR_ : Hid (∀ At_ ct w', TRow w' At_ toks → Calls Tryz.prog 10 #[.slice At_ M ct] w' (PParse w' (.ok k2 t2))) := fun At_ ct w' h => parse_read hr hta hM hp At_ ct w' h
        have HN2 := Lib.hid hn
        have hdz : ¬ ((deepN ns : Nat) : Int) > 64 := by omega
        clear hr hM hp hn HAG hd hta
        generalize deepN ns = dp at *
        generalize textN ns = ta at *
        have hss : ((bs ta).toList == (bs ta).toList) = true := by simp
        have e0 := HS5.out.d.load
        go_wp2_with fail
        refine (CT.out _ _ HS5.out.d.isD HS5.out.t).mono ?_; rintro e w6 ⟨rfl, hb⟩
        have HS6 := Lib.hid (HS5.out.later hb)
        clear hb e0 HS5
        go_wp2_with fail
        refine (RD.out _ HS6.out.u).mono ?_; intro e w7 hp; obtain ⟨At_, ct, rfl, htr, hb, -⟩ := hp
        have HS7 := Lib.hid (HS6.out.later hb)
        have HTR := Lib.hid htr
        clear hb htr HS6 RD
        go_wp2_with fail
        refine (PR_.out _ _ _ HTR.out).mono ?_; intro e w8 hq
        clear PR_
        obtain ⟨nv, av, rfl, hnn, -, hb⟩ := hq
        obtain ⟨am, km, rfl, hrm⟩ := hnn.row
        have hcam : t2.nodes.length ≤ km := by
          rcases hnn.2 with ⟨hv, hn⟩ | ⟨g, cap, cur, hv, hb, hg, hc, _⟩
          · rw [hn]; exact Nat.zero_le _
          · cases hv; exact hc
        rw [HN2.out] at hrm hcam ⊢
        rw [HNN.out] at hcam ⊢
        have hbb := hb.trans ((Below.refl _ _).alloc hb.size (.cells #[.slice am N km] 24))
        have HS9 := Lib.hid (HS7.out.later hbb)
        have HC9 : Hid (Ds w8.heap.size am ns N km (w8.alloc (.cells #[.slice am N km] 24))) := ds_of' hrm HNN.out hcam
        clear hb hbb hnn hrm hcam HS7 HTR HN2
        go_upto_region 11 with (fail)
        generalize w8.alloc (.cells #[.slice am N km] 24) = w9 at *
        generalize w8.heap.size = bc at *
        have e0 := HS9.out.d.load
        have e1 := HC9.out.load
        go_wp2_with fail
        refine (CS.out _ _ _ HC9.out.row HS9.out.d.row).mono ?_; rintro e z1 ⟨rfl, hb⟩
        have HSA := Lib.hid (HS9.out.later hb)
        have HCA := Lib.hid (HC9.out.later hb)
        clear hb e0 e1 HS9 HC9 CS
        have e1 := HCA.out.load
        go_wp2_with fail
        refine (CT.out _ _ HCA.out.isD HSA.out.t).mono ?_; rintro e z2 ⟨rfl, hb⟩
        have HSB := Lib.hid (HSA.out.later hb)
        clear hb e1 HSA HCA CT
        go_wp2
        go_ret
        exact ⟨rfl, HSB.out.bel⟩
      · have hdz : ((deepN ns : Nat) : Int) > 64 := by omega
        clear HAG hd
        generalize deepN ns = dp at *
        go_wp2
        go_ret
        exact ⟨rfl, HS5.out.bel⟩
end Go.Proofs.YtpbadglfegcdjaaGreatDoor
