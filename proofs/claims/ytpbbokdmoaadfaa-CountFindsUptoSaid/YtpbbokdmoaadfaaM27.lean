/- Whether two values are the same: the document's walk. -/
import Derived.Test.YtpbbokdmoaadfaaM26
import Derived.Test.YtpbbokdmoaadfaaM06
import Derived.Test.YtpbbokdmoaadfaaM18
import Derived.Test.YtpbbokdmoaadfaaM15
import Derived.Test.YtpbbokdmoaadfaaM09
import Derived.Laws.EntriesVeiled
namespace Go.Proofs.Ytpbbokdmoaadfaa
set_option maxHeartbeats 64000000
set_option maxRecDepth 1000000
set_option linter.all false
open Go Go.RowKit
theorem Vs.ext_at {a b : Vs} (hl : a.len = b.len) (h : ∀ j, j < a.len -> a.at j = b.at j) : a = b := by
 have e : a.list = b.list := by
  refine List.ext_getElem? (fun j => ?_)
  rcases Nat.lt_or_ge j a.len with hj | hj
  ·rw [Vs.at_get hj, Vs.at_get (by omega), h j hj]
  ·have h1 : a.list.length <= j := hj
   have h2 : b.list.length <= j := by unfold Vs.len at hl; omega
   rw [List.getElem?_eq_none h1, List.getElem?_eq_none h2]
 rw [<- Vs.of_list a, <- Vs.of_list b, e]
noncomputable def sameV (a b : Vl) : Bool := @decide (a = b) (Classical.propDecidable _)
theorem sameV_t {a b : Vl} (h : a = b) : sameV a b = true := by unfold sameV; simp [h]
theorem sameV_f {a b : Vl} (h : a ≠ b) : sameV a b = false := by unfold sameV; simp [h]
theorem sameV_iff {a b : Vl} : sameV a b = true ↔ a = b := by unfold sameV; simp
structure ElS (g o : Nat) (y : Vl) (B : Option Addr) (c : Nat) (w : World) : Prop where
 lt : g < w.heap.size
 cap : y.kids.len <= c
 cells : ∀ j, j < 5 -> w.cell? ⟨g, o + j, none⟩ = (vlC y B c)[j]?
 row : VRow w B 0 y.kids
theorem ElS.later {g o : Nat} {y : Vl} {B : Option Addr} {c : Nat} {w w' : World} (h : ElS g o y B c w) (hb : Below w.heap.size w w') : ElS g o y B c w' :=
 ⟨Nat.lt_of_lt_of_le h.lt hb.size, h.cap, fun j hj => (hb.cell (p := ⟨g, o + j, none⟩) h.lt).trans (h.cells j hj), h.row.later hb⟩
theorem ElS.five {g o : Nat} {k p : Int} {b : UInt8} {t : List UInt8} {ks : Vs} {B : Option Addr} {c : Nat} {w : World} (h : ElS g o ⟨k, b, t, p, ks⟩ B c w) :
 w.cell? ⟨g, o, none⟩ = some (.int .i64 k) /\ w.cell? ⟨g, o + 1, none⟩ = some (.int .u8 ((b.toNat : Nat) : Int)) /\ w.cell? ⟨g, o + 2, none⟩ = some (.string (bs t)) /\ w.cell? ⟨g, o + 3, none⟩ = some (.int .i64 p) /\ w.cell? ⟨g, o + 4, none⟩ = some (.slice B ks.len c) :=
 ⟨h.cells 0 (by decide), h.cells 1 (by decide), h.cells 2 (by decide), h.cells 3 (by decide), h.cells 4 (by decide)⟩
theorem VRow.el {w : World} {s : Vs} {A : Option Addr} {j : Nat} (h : VRow w A 0 s) (hj : j < s.len) : ∃ g o B c, A = some ⟨g, o, none⟩ /\ ElS g (o + j * 5) (s.at j) B c w := by
 obtain ⟨g, o, h1, h2, B, c, h3, h4, h5⟩ := VRow.at_ h hj
 rw [Nat.zero_add] at h4
 exact ⟨g, o, B, c, h1, h2, h3, h4, h5⟩
theorem ElS.isV {g o : Nat} {y : Vl} {B : Option Addr} {c : Nat} {w : World} (h : ElS g o y B c w) : IsV w (.agg (vlC y B c)) y := ⟨B, c, h.cap, rfl, h.row⟩
structure SmS (w0 : World) (a b : Vl) (A B : Option Addr) (c d : Nat) (w : World) : Prop where
 bel : Below w0.heap.size w0 w
 ba : Blk w w0.heap.size (vlC a A c) 32
 bb : Blk w (w0.heap.size + 1) (vlC b B d) 32
 ra : VRow w A 0 a.kids
 rb : VRow w B 0 b.kids
theorem SmS.later {w0 w w' : World} {a b : Vl} {A B : Option Addr} {c d : Nat} (h : SmS w0 a b A B c d w) (hb : Below w.heap.size w w') : SmS w0 a b A B c d w' := ⟨h.bel.trans (hb.mono h.bel.size), h.ba.later hb, h.bb.later hb, h.ra.later hb, h.rb.later hb⟩
theorem SmS.new {w : World} {a b : Vl} {A B : Option Addr} {c d : Nat} (h : VRow w A 0 a.kids) (k : VRow w B 0 b.kids) : SmS w a b A B c d ((w.alloc (.cells (vlC a A c) 32)).alloc (.cells (vlC b B d) 32)) := by
 have HB := ((Below.refl w.heap.size w).alloc (Nat.le_refl _) (.cells (vlC a A c) 32)).alloc (by simp) (.cells (vlC b B d) 32)
 exact ⟨HB, (Blk.new w _ _).alloc _, Blk.new' (by simp) _ _, h.later HB, k.later HB⟩
structure SmE (w0 : World) (a b : Vl) (A B : Option Addr) (c d g o : Nat) (x : Vl) (Ax : Option Addr) (cx g2 o2 : Nat) (y : Vl) (Ay : Option Addr) (cy : Nat) (w : World) : Prop where
 s : SmS w0 a b A B c d w
 x : ElS g o x Ax cx w
 y : ElS g2 o2 y Ay cy w
theorem SmE.later {w0 w w' : World} {a b : Vl} {A B : Option Addr} {c d g o : Nat} {x : Vl} {Ax : Option Addr} {cx g2 o2 : Nat} {y : Vl} {Ay : Option Addr} {cy : Nat} (h : SmE w0 a b A B c d g o x Ax cx g2 o2 y Ay cy w) (hb : Below w.heap.size w w') : SmE w0 a b A B c d g o x Ax cx g2 o2 y Ay cy w' := ⟨h.s.later hb, h.x.later hb, h.y.later hb⟩
def SmL (w0 : World) (a b : Vl) (A B : Option Addr) (c d : Nat) (x : Value) (w : World) : Prop := ∃ k : Nat, k <= a.kids.len /\ x = .int .i64 (k : Int) /\ (∀ j, j < k -> a.kids.at j = b.kids.at j) /\ SmS w0 a b A B c d w
theorem rsame_any : ∀ (a b : Vl), a.kids.len < 4611686018427387904 -> (∀ v, cntV v <= cntV a -> v.kids.len < 4611686018427387904) -> ∀ (u v : Value) (w : World), IsV w u a -> IsV w v b -> Calls Try.prog 17 #[u, v] w (Ans w (.bool (sameV a b))) := fun a => by
 induction a using Vl.kids_ind with
 | h a ih =>
  intro b hal hall u v w hu hv
  obtain ⟨A, c, hc, rfl, hra⟩ := hu
  obtain ⟨B, d, hd, rfl, hrb⟩ := hv
  have HS0 := Lib.hid (SmS.new (c := c) (d := d) hra hrb)
  have IH : Hid (∀ j, j < a.kids.len -> ∀ (y : Vl) (u v : Value) (w : World), IsV w u (a.kids.at j) -> IsV w v y -> Calls Try.prog 17 #[u, v] w (Ans w (.bool (sameV (a.kids.at j) y)))) := fun j hj y => ih _ (List.mem_of_getElem? (Vs.at_get hj)) y (hall _ (Nat.le_of_lt (cntV_kid hj))) (fun v hv => hall v (Nat.le_trans hv (Nat.le_of_lt (cntV_kid hj))))
  obtain ⟨sv, hsv⟩ : ∃ sv, sameV a b = sv := ⟨_, rfl⟩
  rw [hsv]
  have HSV := Lib.hid hsv
  clear ih hra hrb hsv hall
  obtain ⟨ak, ab, at_, ap, aks⟩ := a
  obtain ⟨bk, bb, bt, bp, bks⟩ := b
  rw [vlC_five, vlC_five] at *
  simp only at HS0 IH hal hc hd ⊢
  by_cases h1 : ak = bk
  ·have n1 : (ak != bk) = false := by simp [h1]
   by_cases h2 : ab = bb
   ·have n2 : (((ab.toNat : Nat) : Int) != ((bb.toNat : Nat) : Int)) = false := by simp [h2]
    by_cases h3 : at_ = bt
    ·have n3 : (bs at_ != bs bt) = false := by show (!(bs at_ == bs bt)) = false; rw [bs_beq, decide_eq_true h3]; rfl
     have n3t : (bs at_).toList = (bs bt).toList := by rw [h3]
     by_cases h4 : ap = bp
     ·have n4 : (ap != bp) = false := by simp [h4]
      by_cases h5 : aks.len = bks.len
      ·have n5 : (((aks.len : Nat) : Int) != ((bks.len : Nat) : Int)) = false := by simp [h5]
       have HEQ : Hid ((∀ j, j < aks.len -> aks.at j = bks.at j) -> sv = true) := fun h => by
        rw [<- HSV.out]; refine sameV_t ?_; rw [h1, h2, h3, h4, Vs.ext_at h5 h]
       have HNE : Hid (∀ j, j < aks.len -> aks.at j ≠ bks.at j -> sv = false) := fun j hj h => by
        rw [<- HSV.out]; refine sameV_f (fun e => h ?_); injection e with _ _ _ _ e; rw [e]
       have H5 := Lib.hid h5
       clear h1 h2 h3 h4 h5 HSV
       go_enter Try.func17, Try.ntmps17
       go_upto_region 1 with (fail)
       generalize (w.alloc (.cells #[.int .i64 ak, .int .u8 ((ab.toNat : Nat) : Int), .string (bs at_), .int .i64 ap, .slice A aks.len c] 32)).alloc (.cells #[.int .i64 bk, .int .u8 ((bb.toNat : Nat) : Int), .string (bs bt), .int .i64 bp, .slice B bks.len d] 32) = w1 at *
       obtain ⟨f0, f1, f2, f3, f4⟩ := vl_cells HS0.out.ba
       obtain ⟨g0, g1, g2, g3, g4⟩ := vl_cells HS0.out.bb
       go_wp2
       clear f0 f1 f2 f3 f4 g0 g1 g2 g3 g4 n1 n2 n3 n4 n5
       go_loopw [5] (SmL w ⟨ak, ab, at_, ap, aks⟩ ⟨bk, bb, bt, bp, bks⟩ A B c d) (fun x _ => aks.len - (intOf x).toNat)
       case atStart => exact ⟨0, Nat.zero_le _, rfl, fun j hj => absurd hj (Nat.not_lt_zero j), HS0.out⟩
       case round =>
        obtain ⟨k, hk, rfl, hall, hs⟩ := hrel
        simp only at hk hall
        have HS := Lib.hid hs
        have HALL := Lib.hid hall
        clear hs HS0 hall
        by_cases hlt : k < aks.len
        ·have hltz : (k : Int) < (aks.len : Int) := by omega
         have hltb : k < bks.len := by have := H5.out; omega
         have hltbz : (k : Int) < (bks.len : Int) := by omega
         obtain ⟨gx, ox, X, cx, rfl, hx⟩ := VRow.el HS.out.ra hlt
         obtain ⟨gy, oy, Y, cy, rfl, hy⟩ := VRow.el HS.out.rb hltb
         have HE0 : Hid (SmE w ⟨ak, ab, at_, ap, aks⟩ ⟨bk, bb, bt, bp, bks⟩ (some ⟨gx, ox, none⟩) (some ⟨gy, oy, none⟩) c d gx (ox + k * 5) (aks.at k) X cx gy (oy + k * 5) (bks.at k) Y cy wr) := ⟨HS.out, hx, hy⟩
         have HC : Hid (∀ w', ElS gx (ox + k * 5) (aks.at k) X cx w' -> ElS gy (oy + k * 5) (bks.at k) Y cy w' -> Calls Try.prog 17 #[.agg (vlC (aks.at k) X cx), .agg (vlC (bks.at k) Y cy)] w' (Ans w' (.bool (sameV (aks.at k) (bks.at k))))) := fun w' h1 h2 => IH.out k hlt _ _ _ w' h1.isV h2.isV
         have HYES : Hid (sameV (aks.at k) (bks.at k) = true -> ∀ j, j < k + 1 -> aks.at j = bks.at j) := fun h j hj => by
          rcases Nat.lt_or_ge j k with h9 | h9
          ·exact HALL.out j h9
          ·rw [show j = k by omega]; exact sameV_iff.1 h
         have HNO : Hid (sameV (aks.at k) (bks.at k) = false -> sv = false) := fun h => HNE.out k hlt (fun e => by rw [sameV_t e] at h; cases h)
         clear hx hy HNE HALL HS IH
         generalize sameV (aks.at k) (bks.at k) = r at *
         have HR : Hid (∀ j, j < k + 1 -> aks.at j = bks.at j) \/ r = false := by
          cases r with
          | true => exact .inl (HYES.out rfl)
          | false => exact .inr rfl
         have HRN : Hid (r = false -> sv = false) := HNO.out
         clear HYES HNO
         have HSM : Hid (∀ w', SmE w ⟨ak, ab, at_, ap, aks⟩ ⟨bk, bb, bt, bp, bks⟩ (some ⟨gx, ox, none⟩) (some ⟨gy, oy, none⟩) c d gx (ox + k * 5) (aks.at k) X cx gy (oy + k * 5) (bks.at k) Y cy w' -> SmS w ⟨ak, ab, at_, ap, aks⟩ ⟨bk, bb, bt, bp, bks⟩ (some ⟨gx, ox, none⟩) (some ⟨gy, oy, none⟩) c d w') := fun w' h => h.s
         generalize aks.at k = x at HE0 HC HSM
         generalize bks.at k = y at HE0 HC HSM
         obtain ⟨xk, xb, xt, xp, xs⟩ := x
         obtain ⟨yk, yb, yt, yp, ys⟩ := y
         rw [vlC_five, vlC_five] at HC
         simp only at HC
         obtain ⟨f0, f1, f2, f3, f4⟩ := vl_cells HE0.out.s.ba
         obtain ⟨g0, g1, g2, g3, g4⟩ := vl_cells HE0.out.s.bb
         go_upto_region 6 with (fail)
         clear f0 f1 f2 f3 f4 g0 g1 g2 g3 g4
         refine wp_region_stable (S := (SmE w ⟨ak, ab, at_, ap, aks⟩ ⟨bk, bb, bt, bp, bks⟩ (some ⟨gx, ox, none⟩) (some ⟨gy, oy, none⟩) c d gx (ox + k * 5) ⟨xk, xb, xt, xp, xs⟩ X cx gy (oy + k * 5) ⟨yk, yb, yt, yp, ys⟩ Y cy)) (hSt := fun _ _ h hb => h.later hb) (plan := [[(2, none)], [(48, some 0)], [(5, none)], [(49, some 1), (50, some 2)], [(51, some 3)], [(3, none)], [(53, some 5)], [(5, none)], [(54, some 6), (55, some 7)], [(56, some 8)], [(52, some 4), (57, some 9)], [(58, some 10)]]) (by kernel_rfl) (by kernel_rfl) (by kernel_rfl) ?hS ?_
         rotate_left
         iterate 12 first
          | (refine chain_skip (by rfl) (by rfl) ?_)
          | (apply chain_want (by rfl)
             ·intro act wx hS hr
              simp at hr
              obtain ⟨f0, f1, f2, f3, f4⟩ := vl_cells hS.s.ba
              obtain ⟨g0, g1, g2, g3, g4⟩ := vl_cells hS.s.bb
              obtain ⟨p0, p1, p2, p3, p4⟩ := hS.x.five
              obtain ⟨q0, q1, q2, q3, q4⟩ := hS.y.five
              go_simp
              (try go_ints)
              first
               | ((with_reducible refine (HC.out _ hS.x hS.y).mono ?_); rintro e w' ⟨rfl, hb⟩; exact Done.mk hb)
               | exact Done.same
            )
         show ∀ w', _ -> _
         intro wz hz
         simp [Act.put]
         case hS => exact HE0.out
         have HS2 := Lib.hid (HSM.out _ hz)
         clear hz HE0 HC HSM
         cases r with
         | true =>
          have HAL : Hid (∀ j, j < k + 1 -> aks.at j = bks.at j) := by rcases HR with h | h; exact h; cases h
          clear HR HRN
          go_wp2
          go_roundw
          case rel => exact ⟨k + 1, by simp only; omega, by go_num, HAL.out, HS2.out⟩
          case measure => simp [intOf]; omega
         | false =>
          have HF := HRN.out rfl
          clear HR HRN
          go_wp2
          go_ret
          exact ⟨by rw [HF]; rfl, HS2.out.bel⟩
        ·obtain rfl : k = aks.len := by omega
         have hlast : ¬ ((aks.len : Nat) : Int) < (aks.len : Int) := by omega
         have HT := Lib.hid (HEQ.out HALL.out)
         obtain ⟨f0, f1, f2, f3, f4⟩ := vl_cells HS.out.ba
         clear HALL HEQ HNE IH
         go_wp2
         go_ret
         exact ⟨by rw [HT.out]; rfl, HS.out.bel⟩
      ·have n5 : (((aks.len : Nat) : Int) != ((bks.len : Nat) : Int)) = true := by rw [bne_iff_ne]; omega
       have HF : Hid (sv = false) := by unfold Hid; rw [<- HSV.out]; exact sameV_f (fun e => h5 (by injection e with _ _ _ _ e; rw [e]))
       rw [HF.out]
       clear HSV HF IH
       try clear h5
       try clear h4
       try clear h3
       try clear h2
       try clear h1
       go_enter Try.func17, Try.ntmps17
       go_upto_region 1 with (fail)
       generalize (w.alloc (.cells #[.int .i64 ak, .int .u8 ((ab.toNat : Nat) : Int), .string (bs at_), .int .i64 ap, .slice A aks.len c] 32)).alloc (.cells #[.int .i64 bk, .int .u8 ((bb.toNat : Nat) : Int), .string (bs bt), .int .i64 bp, .slice B bks.len d] 32) = w1 at *
       obtain ⟨f0, f1, f2, f3, f4⟩ := vl_cells HS0.out.ba
       obtain ⟨g0, g1, g2, g3, g4⟩ := vl_cells HS0.out.bb
       go_wp2
       go_ret
       exact ⟨rfl, HS0.out.bel⟩
     ·have n4 : (ap != bp) = true := by rw [bne_iff_ne]; exact h4
      have HF : Hid (sv = false) := by unfold Hid; rw [<- HSV.out]; exact sameV_f (fun e => h4 (by injection e))
      rw [HF.out]
      clear HSV HF IH
      try clear h5
      try clear h4
      try clear h3
      try clear h2
      try clear h1
      go_enter Try.func17, Try.ntmps17
      go_upto_region 1 with (fail)
      generalize (w.alloc (.cells #[.int .i64 ak, .int .u8 ((ab.toNat : Nat) : Int), .string (bs at_), .int .i64 ap, .slice A aks.len c] 32)).alloc (.cells #[.int .i64 bk, .int .u8 ((bb.toNat : Nat) : Int), .string (bs bt), .int .i64 bp, .slice B bks.len d] 32) = w1 at *
      obtain ⟨f0, f1, f2, f3, f4⟩ := vl_cells HS0.out.ba
      obtain ⟨g0, g1, g2, g3, g4⟩ := vl_cells HS0.out.bb
      go_wp2
      go_ret
      exact ⟨rfl, HS0.out.bel⟩
    ·have n3 : (bs at_ != bs bt) = true := by show (!(bs at_ == bs bt)) = true; rw [bs_beq, decide_eq_false h3]; rfl
     have n3t : ¬ (bs at_).toList = (bs bt).toList := fun e => h3 (by have := beq_toListBytes (bs at_) (bs bt); rw [bs_beq, decide_eq_false h3] at this; simp [e] at this)
     have HF : Hid (sv = false) := by unfold Hid; rw [<- HSV.out]; exact sameV_f (fun e => h3 (by injection e))
     rw [HF.out]
     clear HSV HF IH
     try clear h5
     try clear h4
     try clear h3
     try clear h2
     try clear h1
     go_enter Try.func17, Try.ntmps17
     go_upto_region 1 with (fail)
     generalize (w.alloc (.cells #[.int .i64 ak, .int .u8 ((ab.toNat : Nat) : Int), .string (bs at_), .int .i64 ap, .slice A aks.len c] 32)).alloc (.cells #[.int .i64 bk, .int .u8 ((bb.toNat : Nat) : Int), .string (bs bt), .int .i64 bp, .slice B bks.len d] 32) = w1 at *
     obtain ⟨f0, f1, f2, f3, f4⟩ := vl_cells HS0.out.ba
     obtain ⟨g0, g1, g2, g3, g4⟩ := vl_cells HS0.out.bb
     go_wp2
     go_ret
     exact ⟨rfl, HS0.out.bel⟩
   ·have n2 : (((ab.toNat : Nat) : Int) != ((bb.toNat : Nat) : Int)) = true := by rw [bne_iff_ne]; exact fun e => h2 (UInt8.toNat_inj.1 (by omega))
    have HF : Hid (sv = false) := by unfold Hid; rw [<- HSV.out]; exact sameV_f (fun e => h2 (by injection e))
    rw [HF.out]
    clear HSV HF IH
    try clear h5
    try clear h4
    try clear h3
    try clear h2
    try clear h1
    go_enter Try.func17, Try.ntmps17
    go_upto_region 1 with (fail)
    generalize (w.alloc (.cells #[.int .i64 ak, .int .u8 ((ab.toNat : Nat) : Int), .string (bs at_), .int .i64 ap, .slice A aks.len c] 32)).alloc (.cells #[.int .i64 bk, .int .u8 ((bb.toNat : Nat) : Int), .string (bs bt), .int .i64 bp, .slice B bks.len d] 32) = w1 at *
    obtain ⟨f0, f1, f2, f3, f4⟩ := vl_cells HS0.out.ba
    obtain ⟨g0, g1, g2, g3, g4⟩ := vl_cells HS0.out.bb
    go_wp2
    go_ret
    exact ⟨rfl, HS0.out.bel⟩
  ·have n1 : (ak != bk) = true := by rw [bne_iff_ne]; exact h1
   have HF : Hid (sv = false) := by unfold Hid; rw [<- HSV.out]; exact sameV_f (fun e => h1 (by injection e))
   rw [HF.out]
   clear HSV HF IH
   try clear h5
   try clear h4
   try clear h3
   try clear h2
   try clear h1
   go_enter Try.func17, Try.ntmps17
   go_upto_region 1 with (fail)
   generalize (w.alloc (.cells #[.int .i64 ak, .int .u8 ((ab.toNat : Nat) : Int), .string (bs at_), .int .i64 ap, .slice A aks.len c] 32)).alloc (.cells #[.int .i64 bk, .int .u8 ((bb.toNat : Nat) : Int), .string (bs bt), .int .i64 bp, .slice B bks.len d] 32) = w1 at *
   obtain ⟨f0, f1, f2, f3, f4⟩ := vl_cells HS0.out.ba
   obtain ⟨g0, g1, g2, g3, g4⟩ := vl_cells HS0.out.bb
   go_wp2
   go_ret
   exact ⟨rfl, HS0.out.bel⟩
theorem rplain_any (v : Vl) (k : Int) (b : UInt8) (t : List UInt8) (p : Int) (n : Nat) (hlen : v.kids.len < 4611686018427387904) (u : Value) (w : World) (hu : IsV w u v) :
 Calls Try.prog 53 #[u, .int .i64 k, .int .u8 ((b.toNat : Nat) : Int), .string (bs t), .int .i64 p, .int .i64 (n : Int)] w (Ans w (.bool (decide (plainP v k b t p n)))) := by
 obtain ⟨A, c, hc, rfl, hr⟩ := hu
 have HS0 := Lib.hid (MnS.new (c := c) hr)
 have HD : Hid (¬ plainP v k b t p n -> decide (plainP v k b t p n) = false) := fun h => decide_eq_false h
 have HE : Hid (plainP v k b t p n -> decide (plainP v k b t p n) = true) := fun h => decide_eq_true h
 generalize decide (plainP v k b t p n) = r at *
 unfold plainP at HD HE
 clear hr
 obtain ⟨ak, ab, at_, ap, aks⟩ := v
 rw [vlC_five] at *
 simp only at HS0 HD HE hlen hc ⊢
 by_cases h1 : ak = k
 ·have n1 : (ak == k) = true := by simp [h1]
  by_cases h2 : ab = b
  ·have n2 : (((ab.toNat : Nat) : Int) == ((b.toNat : Nat) : Int)) = true := by simp [h2]
   by_cases h3 : at_ = t
   ·have n3 : (bs at_ == bs t) = true := by rw [bs_beq, decide_eq_true h3]
    have n3t : (bs at_).toList = (bs t).toList := by rw [h3]
    by_cases h4 : ap = p
    ·have n4 : (ap == p) = true := by simp [h4]
     by_cases h5 : aks.len = n
     ·have n5 : (((aks.len : Nat) : Int) == ((n : Nat) : Int)) = true := by simp [h5]
      rw [HE.out ⟨h1, h2, h3, h4, h5⟩]
      clear HE h1 h2 h3 h4 h5
      clear HD
      go_enter Try.func53, Try.ntmps53
      go_upto_region 1 with (fail)
      generalize w.alloc (.cells #[.int .i64 ak, .int .u8 ((ab.toNat : Nat) : Int), .string (bs at_), .int .i64 ap, .slice A aks.len c] 32) = w1 at *
      obtain ⟨f0, f1, f2, f3, f4⟩ := vl_cells HS0.out.box
      go_wp2
      go_ret
      exact ⟨rfl, HS0.out.bel⟩
     ·have n5 : (((aks.len : Nat) : Int) == ((n : Nat) : Int)) = false := by rw [beq_eq_false_iff_ne]; omega
      rw [HD.out (fun h => h5 h.2.2.2.2)]
      try clear h5
      try clear h4
      try clear h3
      try clear h2
      try clear h1
      clear HD
      go_enter Try.func53, Try.ntmps53
      go_upto_region 1 with (fail)
      generalize w.alloc (.cells #[.int .i64 ak, .int .u8 ((ab.toNat : Nat) : Int), .string (bs at_), .int .i64 ap, .slice A aks.len c] 32) = w1 at *
      obtain ⟨f0, f1, f2, f3, f4⟩ := vl_cells HS0.out.box
      go_wp2
      go_ret
      exact ⟨rfl, HS0.out.bel⟩
    ·have n4 : (ap == p) = false := by rw [beq_eq_false_iff_ne]; exact h4
     rw [HD.out (fun h => h4 h.2.2.2.1)]
     try clear h5
     try clear h4
     try clear h3
     try clear h2
     try clear h1
     clear HD
     go_enter Try.func53, Try.ntmps53
     go_upto_region 1 with (fail)
     generalize w.alloc (.cells #[.int .i64 ak, .int .u8 ((ab.toNat : Nat) : Int), .string (bs at_), .int .i64 ap, .slice A aks.len c] 32) = w1 at *
     obtain ⟨f0, f1, f2, f3, f4⟩ := vl_cells HS0.out.box
     go_wp2
     go_ret
     exact ⟨rfl, HS0.out.bel⟩
   ·have n3 : (bs at_ == bs t) = false := by rw [bs_beq, decide_eq_false h3]
    have n3t : ¬ (bs at_).toList = (bs t).toList := fun e => h3 (by have := beq_toListBytes (bs at_) (bs t); rw [bs_beq, decide_eq_false h3] at this; simp [e] at this)
    rw [HD.out (fun h => h3 h.2.2.1)]
    try clear h5
    try clear h4
    try clear h3
    try clear h2
    try clear h1
    clear HD
    go_enter Try.func53, Try.ntmps53
    go_upto_region 1 with (fail)
    generalize w.alloc (.cells #[.int .i64 ak, .int .u8 ((ab.toNat : Nat) : Int), .string (bs at_), .int .i64 ap, .slice A aks.len c] 32) = w1 at *
    obtain ⟨f0, f1, f2, f3, f4⟩ := vl_cells HS0.out.box
    go_wp2
    go_ret
    exact ⟨rfl, HS0.out.bel⟩
  ·have n2 : (((ab.toNat : Nat) : Int) == ((b.toNat : Nat) : Int)) = false := by rw [beq_eq_false_iff_ne]; exact fun e => h2 (UInt8.toNat_inj.1 (by omega))
   rw [HD.out (fun h => h2 h.2.1)]
   try clear h5
   try clear h4
   try clear h3
   try clear h2
   try clear h1
   clear HD
   go_enter Try.func53, Try.ntmps53
   go_upto_region 1 with (fail)
   generalize w.alloc (.cells #[.int .i64 ak, .int .u8 ((ab.toNat : Nat) : Int), .string (bs at_), .int .i64 ap, .slice A aks.len c] 32) = w1 at *
   obtain ⟨f0, f1, f2, f3, f4⟩ := vl_cells HS0.out.box
   go_wp2
   go_ret
   exact ⟨rfl, HS0.out.bel⟩
 ·have n1 : (ak == k) = false := by rw [beq_eq_false_iff_ne]; exact h1
  rw [HD.out (fun h => h1 h.1)]
  try clear h5
  try clear h4
  try clear h3
  try clear h2
  try clear h1
  clear HD
  go_enter Try.func53, Try.ntmps53
  go_upto_region 1 with (fail)
  generalize w.alloc (.cells #[.int .i64 ak, .int .u8 ((ab.toNat : Nat) : Int), .string (bs at_), .int .i64 ap, .slice A aks.len c] 32) = w1 at *
  obtain ⟨f0, f1, f2, f3, f4⟩ := vl_cells HS0.out.box
  go_wp2
  go_ret
  exact ⟨rfl, HS0.out.bel⟩
end Go.Proofs.Ytpbbokdmoaadfaa
namespace Go.Proofs.Ytpbbokdmoaadfaa
set_option maxHeartbeats 64000000
set_option maxRecDepth 1000000
set_option linter.all false
open Go Go.RowKit
end Go.Proofs.Ytpbbokdmoaadfaa
