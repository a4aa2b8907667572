/- Counting: a row's values nested: a row's node. Walked. -/
import Derived.Test.YtpbbokdmoaadfaaM33
import Derived.Test.YtpbbokdmoaadfaaM08
import Derived.Test.YtpbbokdmoaadfaaM03
import Derived.Test.YtpbbokdmoaadfaaM13
import Derived.Test.YtpbbokdmoaadfaaM07
namespace Go.Proofs.Ytpbbokdmoaadfaa
set_option maxHeartbeats 64000000
set_option maxRecDepth 1000000
set_option linter.all false
open Go Go.RowKit
theorem nest_math {l : List Nd} {i : Nat} (hF : Form l) (hi : i < l.length) (hk : (atN l i).kind = 4) {a b : Nat} (ha : (atN l i).a.toNat = a) (hb : (atN l i).b.toNat = b) : (memN l i).length = (memN l a).length + (memN l b).length /\
 ∀ L : List VCl, nestN l i ((L.map (·.v)).take (memN l i).length) = ⟨4, 0, [], 0, Vs.of [nestN l a ((L.map (·.v)).take (memN l a).length), nestN l b (((L.drop (memN l a).length).map (·.v)).take (memN l b).length)]⟩ := by
 have hm : (memN l i).length = (memN l a).length + (memN l b).length := by rw [memN_k4 hF hi hk, List.length_append, ha, hb]
 refine ⟨hm, fun L => ?_⟩
 rw [nestN_k4 hF hi hk, ha, hb, hm]
 congr 4
 ·rw [List.take_take]; congr 1; omega
 ·rw [List.drop_take, List.map_drop]; congr 3; omega
theorem nest_kids {p : Nat -> Prop} {w5 ws : World} {H : Nat} {x1 x2 : VCl} (hlt : H < w5.heap.size) (hp : p w5.heap.size) (hsz : ws.heap.size = w5.heap.size) (hoth : ∀ b, b ≠ H -> ws.heap[b]? = w5.heap[b]?)
 (hk1 : VOk (fun b => p b /\ b ≠ H) w5 x1) (hk2 : VOk (fun b => p b /\ b ≠ H) w5 x2) {o : Obj} (ho : o = .cells (x1.cells ++ x2.cells) 32) :
 VOk p (ws.alloc o) ⟨⟨4, 0, [], 0, Vs.of [x1.v, x2.v]⟩, some ⟨w5.heap.size, 0, none⟩, 2⟩ := by
 subst ho
 have hb : Below ws.heap.size ws (ws.alloc (.cells (x1.cells ++ x2.cells) 32)) := (Below.refl ws.heap.size ws).alloc (Nat.le_refl _) _
 have hk : Blk (ws.alloc (.cells (x1.cells ++ x2.cells) 32)) w5.heap.size (x1.cells ++ x2.cells) 32 := by rw [<- hsz]; exact Blk.new ws _ _
 have hv : ∀ x : VCl, VOk (fun b => p b /\ b ≠ H) w5 x -> VOk p (ws.alloc (.cells (x1.cells ++ x2.cells) 32)) x := fun x h =>
  ⟨h.1, (((h.2.blocks (by rw [hsz]; exact Nat.le_refl _) fun b hb _ => hoth b hb.2).later hb).mono fun b _ hb => hb.1)⟩
 refine ⟨by rw [Vs.of_len]; exact Nat.le_refl _, ?_⟩
 exact VRp.of (l := [x1, x2]) hk.lt hp (fun y hy => by
  rcases List.mem_cons.1 hy with rfl | hy
  ·exact hv _ hk1
  ·rw [List.mem_singleton.1 hy]; exact hv _ hk2) fun k hk2 j hj => by
  rw [hk.cell]
  have h5 : x1.cells.size = 5 := rfl
  have h6 : k = 0 \/ k = 1 := by simp at hk2; omega
  rcases h6 with rfl | rfl
  ·rw [show 0 + (0 + 0) * 5 + j = j by omega, Array.getElem?_append_left (by omega)]; rfl
  ·rw [show 0 + (0 + 1) * 5 + j = 5 + j by omega, Array.getElem?_append_right (by omega), h5, show 5 + j - 5 = j by omega]; rfl
theorem nest_seq {l : List Nd} {c m ba oa : Nat} {i : Nat} (hF : Form l) (hi : i < l.length) (hk : (atN l i).kind = 4) (hA : NesC (some ⟨ba, oa, none⟩) l c m (atN l i).a.toNat) (hBB : NesC (some ⟨ba, oa, none⟩) l c m (atN l i).b.toNat) : NesC (some ⟨ba, oa, none⟩) l c m i := by
 intro rb u W p A1 L c1 w hr hB hrow hck hlen hc1 hL
 have hab : (((atN l i).a.toNat : Nat) : Int) = (atN l i).a /\ (((atN l i).b.toNat : Nat) : Int) = (atN l i).b := by
  have hcs := (hF.2.1 i hi).cs rfl
  cases hcs with
  | leaf h1 hf => unfold leafK at h1; omega
  | one h1 hi0 ha hb h7 hr hcl hf => omega
  | two h1 hi0 hb ha hf0 hl hcl hf => omega
 obtain ⟨a, ha⟩ : ∃ a, (atN l i).a.toNat = a := ⟨_, rfl⟩
 obtain ⟨b, hb⟩ : ∃ b, (atN l i).b.toNat = b := ⟨_, rfl⟩
 obtain ⟨hm, hnv⟩ := nest_math hF hi hk ha hb
 have HNV := Lib.hid (hnv L)
 obtain ⟨haz, hbz⟩ := hab
 rw [ha] at hA haz
 rw [hb] at hBB hbz
 have HBB := Lib.hid hBB
 have HM := Lib.hid hm
 have hb1 := (Below.refl w.heap.size w).alloc (Nat.le_refl _) (.cells #[.int .i64 0, .int .u8 0, .string ⟨#[]⟩, .int .i64 0, .slice none 0 0] 32)
 have HB1 := Lib.hid hb1
 have HZ := Lib.hid (Blk.new w #[.int .i64 0, .int .u8 0, .string ⟨#[]⟩, .int .i64 0, .slice none 0 0] 32)
 have HR := Lib.hid hr
 have hil : (i : Int) < (l.length : Int) := by omega
 have hi0 : ¬ (i : Int) < 0 := by omega
 have hck1 : CKp (fun b => p b /\ b ≠ w.heap.size) w L := fun y hy => ⟨(hck y hy).1, (hck y hy).2.mono fun b hb hp => ⟨hp, by omega⟩⟩
 have hp1 : ∀ b, w.heap.size + 1 <= b -> p b /\ b ≠ w.heap.size := fun b hb => ⟨hB b (by omega), by omega⟩
 have hs1 : (w.alloc (.cells #[.int .i64 0, .int .u8 0, .string ⟨#[]⟩, .int .i64 0, .slice none 0 0] 32)).heap.size = w.heap.size + 1 := by simp
 have HCA := Lib.hid (hA rb u W (fun b => p b /\ b ≠ w.heap.size) A1 L c1 _ (hr.later hb1) (fun b hb => hp1 b (by omega)) (hrow.later hb1) (hck1.later hb1) (by omega) hc1 hL)
 have HIN := Lib.hid hi
 have HHK : Hid ((atN l i).kind = 4) := hk
 have hgg : ∀ w', Below w.heap.size w w' -> w'.cell? ⟨rb, 0, none⟩ = some (.slice (some ⟨ba, oa, none⟩) l.length c) /\ w'.cell? ⟨ba, oa + i * 10, none⟩ = some (.int .i64 4) /\ w'.cell? ⟨ba, oa + i * 10 + 1, none⟩ = some (.int .i64 (a : Int)) /\ w'.cell? ⟨ba, oa + i * 10 + 2, none⟩ = some (.int .i64 (b : Int)) := fun w' hbw => by
  have hr' := HR.out.later hbw
  obtain ⟨b8, o8, hA8, hg8⟩ := hr'.row.at10 HIN.out
  cases hA8
  unfold At10 at hg8
  obtain ⟨g0, g1, g2, -⟩ := hg8
  exact ⟨by rw [hr'.blk.cell]; rfl, by rw [g0, HHK.out], by rw [g1, haz], by rw [g2, hbz]⟩
 have HGG := Lib.hid hgg
 have HPP : Hid (∀ b, w.heap.size <= b -> p b) := hB
 have HRW : Hid (∀ (b : Nat) (o : Nat), A1 = some ⟨b, o, none⟩ -> L ≠ [] -> b < w.heap.size) := fun b o e hne => by
  obtain ⟨b', o', e', h1, -⟩ := hrow 0 (List.length_pos_iff.2 hne)
  rw [e] at e'; cases e'; exact h1
 have HCK := Lib.hid hck1
 have HP1 := Lib.hid hp1
 have HS1 := Lib.hid hs1
 clear hgg hA hBB hm hnv haz hbz ha hb hk hr hb1 hrow hck hck1 hp1 hs1 hF hi
 unfold NesP
 rw [HM.out]
 go_enter Try.func46, Try.ntmps46
 go_upto_region 1 with (fail)
 generalize w.alloc (.cells #[.int .i64 0, .int .u8 0, .string ⟨#[]⟩, .int .i64 0, .slice none 0 0] 32) = w1 at *
 obtain ⟨k0, g0, g1, g2⟩ := HGG.out w1 HB1.out
 go_wp2_with fail
 refine HCA.out.mono ?_; rintro e w2 ⟨⟨⟨xk, xb, xt, xp, xs⟩, xB, xc⟩, A2, c2, rfl, hx1, hok1, hsm1, hcl2, hlc2, hb2⟩
 simp only [VCl.cells, vlC]
 have hbw2 := HB1.out.trans (hb2.mono HB1.out.size)
 have hb3 := (Below.refl w2.heap.size w2).alloc (Nat.le_refl _) (.cells #[.int .i64 xk, .int .u8 ((xb.toNat : Nat) : Int), .string (bs xt), .int .i64 xp, .slice xB xs.len xc] 32)
 have HB3 := Lib.hid (hbw2.trans (hb3.mono hbw2.size))
 have HOK1 := Lib.hid (show VOk (fun b => p b /\ b ≠ w.heap.size) _ _ from ⟨hok1.1, hok1.2.later hb3⟩)
 have HX1 := Lib.hid hx1
 have HSM1 := Lib.hid hsm1
 have HBX := Lib.hid (Blk.new w2 #[.int .i64 xk, .int .u8 ((xb.toNat : Nat) : Int), .string (bs xt), .int .i64 xp, .slice xB xs.len xc] 32)
 have HCB := Lib.hid (HBB.out rb u W (fun b => p b /\ b ≠ w.heap.size) A2 (L.drop (memN l a).length) c2 _ (HR.out.later (hbw2.trans (hb3.mono hbw2.size))) (fun b hb => HP1.out b (by have h1 := HS1.out; have h2 := hb2.size; have h3 := hb3.size; omega)) (hcl2.later hb3) (fun y hy => ((HCK.out.later (hbw2.trans (hb3.mono hbw2.size)))) y (List.mem_of_mem_drop hy)) (by rw [List.length_drop]; have := HM.out; omega) hlc2 (by rw [List.length_drop]; omega))
 have HZ2 := Lib.hid (((HZ.out.later hb2)).later hb3)
 clear hsm1 hok1 hx1 hcl2 hlc2 hb2 hbw2 hb3 HCA HBB k0 g0 g1 g2 HZ
 generalize hdl : (L.drop (memN l a).length).length = ln2 at *
 have HDL := Lib.hid hdl
 clear hdl
 go_upto_region 5 with (fail)
 generalize w2.alloc (.cells #[.int .i64 xk, .int .u8 ((xb.toNat : Nat) : Int), .string (bs xt), .int .i64 xp, .slice xB xs.len xc] 32) = w3 at *
 obtain ⟨k0, g0, g1, g2⟩ := HGG.out w3 HB3.out
 go_wp2_with fail
 refine HCB.out.mono ?_; rintro e w4 ⟨⟨⟨yk, yb, yt, yp, ys⟩, yB, yc⟩, A4, c4, rfl, hx2, hok2, hsm2, hcl4, hlc4, hb4⟩
 simp only [VCl.cells, vlC]
 have hbw4 := HB3.out.trans (hb4.mono HB3.out.size)
 have hb5 := (Below.refl w4.heap.size w4).alloc (Nat.le_refl _) (.cells #[.int .i64 yk, .int .u8 ((yb.toNat : Nat) : Int), .string (bs yt), .int .i64 yp, .slice yB ys.len yc] 32)
 have HB5 := Lib.hid (hbw4.trans (hb5.mono hbw4.size))
 have HOK2 := Lib.hid (show VOk (fun b => p b /\ b ≠ w.heap.size) _ _ from ⟨hok2.1, hok2.2.later hb5⟩)
 have HOK3 := Lib.hid (show VOk (fun b => p b /\ b ≠ w.heap.size) _ _ from ⟨HOK1.out.1, (HOK1.out.2.later hb4).later hb5⟩)
 have HBX2 := Lib.hid ((HBX.out.later hb4).later hb5)
 have HBY := Lib.hid (Blk.new w4 #[.int .i64 yk, .int .u8 ((yb.toNat : Nat) : Int), .string (bs yt), .int .i64 yp, .slice yB ys.len yc] 32)
 have HZ5 := Lib.hid ((HZ2.out.later hb4).later hb5)
 have HCL := Lib.hid (hcl4.later hb5)
 have HX2 := Lib.hid hx2
 have HSM2 := Lib.hid hsm2
 have HLC := Lib.hid hlc4
 clear hsm2 k0 g0 g1 g2 hok2 hx2 hcl4 hlc4 hb4 hbw4 hb5 HCB HBX HZ2 HOK1 HB3
 generalize hdd : ((L.drop (memN l a).length).drop (memN l b).length).length = ln4 at *
 have HDD := Lib.hid hdd
 clear hdd
 go_upto_region 6 with (fail)
 generalize w4.alloc (.cells #[.int .i64 yk, .int .u8 ((yb.toNat : Nat) : Int), .string (bs yt), .int .i64 yp, .slice yB ys.len yc] 32) = w5 at *
 have p0 : w5.cell? ⟨w2.heap.size, 0, none⟩ = some (.int .i64 xk) := by rw [HBX2.out.cell]; rfl
 have p1 : w5.cell? ⟨w2.heap.size, 1, none⟩ = some (.int .u8 ((xb.toNat : Nat) : Int)) := by rw [HBX2.out.cell]; rfl
 have p2 : w5.cell? ⟨w2.heap.size, 2, none⟩ = some (.string (bs xt)) := by rw [HBX2.out.cell]; rfl
 have p3 : w5.cell? ⟨w2.heap.size, 3, none⟩ = some (.int .i64 xp) := by rw [HBX2.out.cell]; rfl
 have p4 : w5.cell? ⟨w2.heap.size, 4, none⟩ = some (.slice xB xs.len xc) := by rw [HBX2.out.cell]; rfl
 have q0 : w5.cell? ⟨w4.heap.size, 0, none⟩ = some (.int .i64 yk) := by rw [HBY.out.cell]; rfl
 have q1 : w5.cell? ⟨w4.heap.size, 1, none⟩ = some (.int .u8 ((yb.toNat : Nat) : Int)) := by rw [HBY.out.cell]; rfl
 have q2 : w5.cell? ⟨w4.heap.size, 2, none⟩ = some (.string (bs yt)) := by rw [HBY.out.cell]; rfl
 have q3 : w5.cell? ⟨w4.heap.size, 3, none⟩ = some (.int .i64 yp) := by rw [HBY.out.cell]; rfl
 have q4 : w5.cell? ⟨w4.heap.size, 4, none⟩ = some (.slice yB ys.len yc) := by rw [HBY.out.cell]; rfl
 have z0 : w5.cell? ⟨w.heap.size, 0, none⟩ = some (.int .i64 0) := by rw [HZ5.out.cell]; rfl
 have z1 : w5.cell? ⟨w.heap.size, 1, none⟩ = some (.int .u8 0) := by rw [HZ5.out.cell]; rfl
 have z2 : w5.cell? ⟨w.heap.size, 2, none⟩ = some (.string ⟨#[]⟩) := by rw [HZ5.out.cell]; rfl
 have z3 : w5.cell? ⟨w.heap.size, 3, none⟩ = some (.int .i64 0) := by rw [HZ5.out.cell]; rfl
 have z4 : w5.cell? ⟨w.heap.size, 4, none⟩ = some (.slice none 0 0) := by rw [HZ5.out.cell]; rfl
 have f0 := HZ5.out.frozen 0
 have f1 := HZ5.out.frozen 1
 have f2 := HZ5.out.frozen 2
 have f3 := HZ5.out.frozen 3
 have f4 := HZ5.out.frozen 4
 have hwlt : w.heap.size < w5.heap.size := HZ5.out.lt
 have hwne : ¬ w5.heap.size = w.heap.size := by omega
 have hwne2 : ¬ w.heap.size = w5.heap.size := by omega
 go_wp2
 refine bodyPost_ret (v := .tuple #[.agg #[.int .i64 4, .int .u8 0, .string ⟨#[]⟩, .int .i64 0, .slice (some ⟨w5.heap.size, 0, none⟩) 2 2], .slice A4 ln4 c4]) ?_ rfl ?_
 ·simp [results, Try.results46, go_sem]
  go_simp
  try rfl
 ·have HBS : Below w.heap.size w (((((w5.setCell ⟨w.heap.size, 0, none⟩ (.int .i64 4)).setCell ⟨w.heap.size, 1, none⟩ (.int .u8 0)).setCell ⟨w.heap.size, 2, none⟩ (.string ⟨#[]⟩)).setCell ⟨w.heap.size, 3, none⟩ (.int .i64 0)).setCell ⟨w.heap.size, 4, none⟩ (.slice (some ⟨w5.heap.size, 0, none⟩) 2 2)) := HB5.out.setCell (p := ⟨w.heap.size, 0, none⟩) (Nat.le_refl _) _ |>.setCell (p := ⟨w.heap.size, 1, none⟩) (Nat.le_refl _) _ |>.setCell (p := ⟨w.heap.size, 2, none⟩) (Nat.le_refl _) _ |>.setCell (p := ⟨w.heap.size, 3, none⟩) (Nat.le_refl _) _ |>.setCell (p := ⟨w.heap.size, 4, none⟩) (Nat.le_refl _) _
  have hsz : (((((w5.setCell ⟨w.heap.size, 0, none⟩ (.int .i64 4)).setCell ⟨w.heap.size, 1, none⟩ (.int .u8 0)).setCell ⟨w.heap.size, 2, none⟩ (.string ⟨#[]⟩)).setCell ⟨w.heap.size, 3, none⟩ (.int .i64 0)).setCell ⟨w.heap.size, 4, none⟩ (.slice (some ⟨w5.heap.size, 0, none⟩) 2 2)).heap.size = w5.heap.size := by simp [World.setCell]
  have hoth : ∀ b, b ≠ w.heap.size -> (((((w5.setCell ⟨w.heap.size, 0, none⟩ (.int .i64 4)).setCell ⟨w.heap.size, 1, none⟩ (.int .u8 0)).setCell ⟨w.heap.size, 2, none⟩ (.string ⟨#[]⟩)).setCell ⟨w.heap.size, 3, none⟩ (.int .i64 0)).setCell ⟨w.heap.size, 4, none⟩ (.slice (some ⟨w5.heap.size, 0, none⟩) 2 2)).heap[b]? = w5.heap[b]? := fun b hb => by
   rw [Below.heap_setCell _ _ _ _ hb, Below.heap_setCell _ _ _ _ hb, Below.heap_setCell _ _ _ _ hb, Below.heap_setCell _ _ _ _ hb, Below.heap_setCell _ _ _ _ hb]
  generalize (((((w5.setCell ⟨w.heap.size, 0, none⟩ (.int .i64 4)).setCell ⟨w.heap.size, 1, none⟩ (.int .u8 0)).setCell ⟨w.heap.size, 2, none⟩ (.string ⟨#[]⟩)).setCell ⟨w.heap.size, 3, none⟩ (.int .i64 0)).setCell ⟨w.heap.size, 4, none⟩ (.slice (some ⟨w5.heap.size, 0, none⟩) 2 2)) = ws at *
  have hsame : ∀ b o, A4 = some ⟨b, o, none⟩ -> ∃ o', A1 = some ⟨b, o', none⟩ := fun b o e => by
   obtain ⟨o1, e1⟩ := HSM2.out b o e
   exact HSM1.out b o1 e1
  have hal := (Below.refl ws.heap.size ws).alloc (Nat.le_refl _) (.cells #[.int .i64 xk, .int .u8 ((xb.toNat : Nat) : Int), .string (bs xt), .int .i64 xp, .slice xB xs.len xc, .int .i64 yk, .int .u8 ((yb.toNat : Nat) : Int), .string (bs yt), .int .i64 yp, .slice yB ys.len yc] 32)
  have hcl : ClRow ws A4 ((L.drop (memN l a).length).drop (memN l b).length) := fun k hk => by
   obtain ⟨b', off, e1, e2, e3⟩ := HCL.out k hk
   obtain ⟨o', e4⟩ := hsame b' off e1
   have hblt := HRW.out b' o' e4 (fun e => by rw [e] at hk; simp at hk)
   refine ⟨b', off, e1, by rw [hsz]; exact e2, fun j hj => ?_⟩
   rw [<- e3 j hj]
   unfold World.cell?
   simp only
   rw [hoth b' (by omega)]
  have hfin := nest_kids (p := p) (H := w.heap.size) (w5 := w5) (ws := ws) hwlt (HPP.out _ (by omega)) hsz hoth HOK3.out HOK2.out (o := .cells #[.int .i64 xk, .int .u8 ((xb.toNat : Nat) : Int), .string (bs xt), .int .i64 xp, .slice xB xs.len xc, .int .i64 yk, .int .u8 ((yb.toNat : Nat) : Int), .string (bs yt), .int .i64 yp, .slice yB ys.len yc] 32) rfl
  have hnv := HNV.out
  rw [HM.out] at hnv
  rw [List.drop_drop] at hcl
  refine ⟨_, A4, c4, ?_, ?_, hfin, ?_, ?_, ?_, ?_⟩
  ·have h8 := HDD.out
   rw [List.length_drop, List.length_drop, Nat.sub_sub] at h8
   rw [h8]; rfl
  ·rw [hnv, <- HX1.out, <- HX2.out]
  ·first | exact hsame | simpa using hsame
  ·exact hcl.later hal
  ·have h8 := HDD.out
   rw [List.length_drop, List.length_drop, Nat.sub_sub] at h8
   have h9 := HLC.out
   omega
  ·exact HBS.trans (hal.mono HBS.size)
end Go.Proofs.Ytpbbokdmoaadfaa
namespace Go.Proofs.Ytpbbokdmoaadfaa
set_option maxHeartbeats 64000000
set_option maxRecDepth 1000000
set_option linter.all false
open Go Go.RowKit
theorem Blk.typed2 {w : World} {b c : Nat} {vs us : Array Value} {t u : TypeId} (h : Blk w b vs t) (k : Blk w c us u) (hne : t ≠ u) : b ≠ c := by
 intro e; subst e
 unfold Blk at h k
 rw [h] at k
 have := Option.some.inj k
 injection this with _ h2
 exact hne h2
theorem own_typed {w : World} {base size n : Nat} {e t : TypeId} {v : Value} {xs : List Value} (h : w.ownsRow base e size v n xs) {g : Nat} {vs : Array Value} (hg : Blk w g vs t) (hne : e ≠ t) : ∀ k, v.ownBlock = some k -> k ≠ g := by
 intro k hk
 obtain ⟨h0, ⟨hv, hn⟩ | ⟨g2, cap, cur, hv, hb, hg2, hr⟩⟩ := h
 ·rw [hv] at hk; cases hk
 ·rw [hv] at hk
  have : g2 = k := by simpa [Value.ownBlock] using hk
  subst this
  exact Blk.typed2 (w := w) (b := g2) (vs := cur) (t := e) hg2 hg hne
section
variable {w : World} {B pb : Nat} {A : Option Addr} {cp : Nat} {l : List Tk} {s : PS} {ov nv av : Value}
end
section
variable {a w w' : World} {B pb : Nat} {A : Option Addr} {cp : Nat} {l : List Tk} {s : PS} {ov nv av : Value}
end
theorem intsV_app (l m : List Int) : intsV (l ++ m) = intsV l ++ intsV m := by simp [intsV]
theorem IRow.news {w : World} {b o : Nat} {r : List Int} (h : IRow w (some ⟨b, o, none⟩) r) : ∀ (j : Nat) (u : Value), (intsV r)[j]? = some u -> w.cell? ((⟨b, o, none⟩ : Addr).add j) = some u := fun j u hu => by
 have hj : j < r.length := by
  have := (List.getElem?_eq_some_iff.1 hu).1
  rwa [intsV_length] at this
 obtain ⟨b', o', e1, -, e2⟩ := h j hj
 cases e1
 have e3 : (intsV r)[j]? = some (.int .i64 (r.getD j 0)) := by unfold intsV; simp [hj]
 rw [e3] at hu
 cases hu
 have hadd : (⟨b, o, none⟩ : Addr).add j = ⟨b, o + j, none⟩ := by unfold Addr.add; split <;> simp_all
 rw [hadd]; exact e2
theorem intsV_ones (r : List Int) : ∀ u ∈ intsV r, u.oneCell' = true := fun u hu => by
 obtain ⟨x, -, rfl⟩ := List.mem_map.1 hu
 rfl
structure IR (base : Nat) (L : List Int) (w w' : World) : Prop where
 out : base <= w.heap.size -> (Below base w w' /\ (∀ v n, OwnI w base v (L.take n) -> OwnI w' base v (L.take n)) /\ (∀ g vs, Blk w g vs 3 -> vs.size <= 1 -> Blk w' g vs 3) /\ (∀ g vs t, t ≠ 3 -> Blk w g vs t -> Blk w' g vs t))
theorem IR.of {base : Nat} {L : List Int} (w w' : World) (hb : Below w.heap.size w w') : IR base L w w' := ⟨fun h => ⟨hb.mono h, fun v n k => k.later hb, fun g vs k _ => k.later hb, fun g vs t _ k => k.later hb⟩⟩
theorem take_mix {L : List Int} {cur : List Value} {p q n : Nat} {r : List Int} (hpq : p + q <= L.length) (sz : p + q <= cur.length) (hu : cur.take (L.take n).length = intsV (L.take n)) (hr : (L.drop p).take q = r) :
 (cur.take p ++ intsV r ++ cur.drop (p + q)).take (L.take n).length = intsV (L.take n) := by
 apply List.ext_getElem?
 intro j
 have hj : (L.take n).length = min n L.length := List.length_take ..
 have lr : (intsV r).length = q := by rw [intsV_length, <- hr, List.length_take, List.length_drop]; omega
 have lp : (cur.take p).length = p := by rw [List.length_take]; omega
 have hu2 : ∀ i, i < (L.take n).length -> cur[i]? = (intsV (L.take n))[i]? := fun i hi => by
  rw [<- hu, List.getElem?_take, if_pos hi]
 rw [List.getElem?_take]
 by_cases h : j < (L.take n).length
 ·rw [if_pos h]
  rcases Nat.lt_or_ge j p with h1 | h1
  ·rw [List.append_assoc, List.getElem?_append_left (by omega), List.getElem?_take, if_pos h1]; exact hu2 j h
  ·rcases Nat.lt_or_ge j (p + q) with h2 | h2
   ·rw [List.append_assoc, List.getElem?_append_right (by omega), lp, List.getElem?_append_left (by omega), <- hr]
    unfold intsV
    rw [List.getElem?_map, List.getElem?_map, List.getElem?_take, if_pos (by omega), List.getElem?_drop, List.getElem?_take, if_pos (by omega), show p + (j - p) = j by omega]
   ·rw [List.getElem?_append_right (by rw [List.length_append, lp, lr]; exact h2), List.length_append, lp, lr, List.getElem?_drop, show p + q + (j - (p + q)) = j by omega]; exact hu2 j h
 ·rw [if_neg h, List.getElem?_eq_none (by rw [intsV_length]; omega)]
theorem wp_append_ints {w : World} {o : Oper} {a : Act} {K : Act -> World -> Prop} {Q : Exit -> Act -> World -> Prop} (s x : Operand)
 (ho : o.op = .call { callee := .builtin .append, args := #[s, x], argTypes := #[54, 54] })
 (base : Nat) (v : Value) (L : List Int) (p q : Nat) (hpq : p + q <= L.length) (hq : 0 < q) (h2q : 2 <= p + q \/ ∃ g, v = .slice (some ⟨g, 0, none⟩) 0 0) (hs : a.eval s = v) (hown : OwnI w base v (L.take p))
 (b oo c : Nat) (hx : a.eval x = .slice (some ⟨b, oo, none⟩) q c) (hr0 : IRow w (some ⟨b, oo, none⟩) ((L.drop p).take q)) (hlen : L.length < 536870912) (hbase : base <= w.heap.size)
 (h : ∀ v' w', OwnI w' base v' (L.take (p + q)) -> IR base L w w' -> K (a.put o.dst v') w') : o.wp Try.prog a w K Q := by
 obtain ⟨ib, hib, hz0, hz1, hz2⟩ := info_parts infoI
 obtain ⟨l, hl⟩ : ∃ l, L.take p = l := ⟨_, rfl⟩
 obtain ⟨r, hr⟩ : ∃ r, (L.drop p).take q = r := ⟨_, rfl⟩
 have hlr : L.take (p + q) = l ++ r := by rw [<- hl, <- hr, List.take_add]
 have ll : l.length = p := by rw [<- hl, List.length_take]; omega
 have lr : r.length = q := by rw [<- hr, List.length_take, List.length_drop]; omega
 rw [hl] at hown
 rw [hr] at hr0
 rw [hlr] at h
 have hown0 : w.ownsRow base 3 1 v l.length (intsV l) := hown
 obtain ⟨v', w', hrun, h2, h3, _⟩ := run_append_own (P := Try.prog) w base 54 o.type 3 ib _ 1 8 Try.underlying54 hib hz0 hz1 hz2 rfl (by decide) v l.length (intsV l) hown0 ⟨b, oo, none⟩ r.length c (intsV r) (by rw [intsV_length, Nat.mul_one]) hr0.news (intsV_ones r) (by unfold maxLen; omega) (by omega) hbase
 have h2' : OwnI w' base v' (l ++ r) := by unfold OwnI; rw [List.length_append, intsV_app]; exact h2
 have hbel : Below base w w' := (Below.refl base w).grown h3 hbase (fun k hk => (World.ownsRow.lt hown0 k hk).1)
 have hoth : ∀ g vs t, t ≠ 3 -> Blk w g vs t -> Blk w' g vs t := fun g vs t ht k => (h3.block g k.lt (fun e => own_typed hown0 k (Ne.symm ht) g e.symm rfl)).trans k
 have keep : (∀ u n, OwnI w base u (L.take n) -> OwnI w' base u (L.take n)) /\ (∀ g vs, Blk w g vs 3 -> vs.size <= 1 -> Blk w' g vs 3) := by
  rcases hown.2 with ⟨hv0, hn⟩ | ⟨g', cap, cur, hv0, hbg, hgg, hnc, hcm, hcs, htake⟩
  ·refine ⟨fun u n hu => World.ownsRow.kept hu h3 (by rw [hv0]; cases hh : u.ownBlock <;> simp [Value.ownBlock]), fun g vs hk _ => (h3.block g hk.lt (by rw [hv0]; simp [Value.ownBlock])).trans hk⟩
  ·by_cases hroom : l.length + r.length <= cap
   ·have hr2 := run_append_room (P := Try.prog) w 54 o.type 3 ib Try.underlying54 hib g' l.length cap cur hgg ⟨b, oo, none⟩ r.length c (intsV r) (by rw [hz1, intsV_length, Nat.mul_one]) hr0.news (intsV_ones r) hroom (by rw [hz1, hcs, Nat.mul_one, intsV_length]; omega)
    rw [<- hv0, hrun] at hr2
    simp only [Result.ok.injEq] at hr2
    have hv := hr2.1
    obtain ⟨q0, ⟨q1, _⟩ | ⟨g2, cap2, cur2, q1, q2, q3, q4, q5, q6, q7⟩⟩ := h2'
    ·rw [hv] at q1; cases q1
    ·rw [hv] at q1
     simp only [Value.slice.injEq, Option.some.injEq, Addr.mk.injEq, and_true] at q1
     obtain ⟨rfl, q8, rfl⟩ := q1
     refine ⟨fun u n hu => ?u1, fun g vs hk hsz => ?u3⟩
     case u1 =>
      by_cases hgu : u.ownBlock = some g'
      ·obtain ⟨u0, ⟨u1, _⟩ | ⟨g3, cap3, cur3, u1, u2, u3, u4, u5, u6, u7⟩⟩ := hu
       ·rw [u1] at hgu; cases hgu
       ·rw [u1] at hgu
        have e3 : g3 = g' := by simpa [Value.ownBlock] using hgu
        subst e3
        have e4 := u3.symm.trans hgg
        simp only [Option.some.injEq, Obj.cells.injEq, and_true] at e4
        have e5 : cap3 = cap := by rw [e4] at u6; omega
        refine ⟨u0, .inr ⟨g3, cap, cur2, by rw [u1, e5], hbg, q3, by omega, hcm, q6, ?_⟩⟩
        rw [Nat.mul_one] at u7 q7 htake ⊢
        have hcur : cur3 = cur := e4
        subst hcur
        have hc2 : cur2 = (cur3.toList.take (l.length * 1) ++ intsV r ++ cur3.toList.drop (l.length * 1 + (intsV r).length)).toArray := by
         have e := setRow_heap w g3 cur3 (cur3.toList.take (l.length * 1) ++ intsV r ++ cur3.toList.drop (l.length * 1 + (intsV r).length)).toArray 3 (0, 0) hgg
         have e6 := hr2.2
         rw [hz1] at e6
         rw [<- e6] at e
         have e7 := q3.symm.trans e
         simpa using e7
        rw [Nat.mul_one, intsV_length, ll, lr] at hc2
        have sz : p + q <= cur3.toList.length := by simp; omega
        rw [hc2, List.toList_toArray]
        exact take_mix hpq sz u7 hr
      ·exact World.ownsRow.kept hu h3 (by right; rw [hv0]; exact hgu)
     case u3 =>
      by_cases hgu : g = g'
      ·subst hgu
       have e4 := (show w.heap[g]? = _ from hk).symm.trans hgg
       simp only [Option.some.injEq, Obj.cells.injEq, and_true] at e4
       rw [e4, hcs] at hsz
       rcases h2q with h2q | ⟨g9, hv9⟩
       ·omega
       ·rw [hv0] at hv9
        injection hv9 with _ _ h9
        omega
      ·exact (h3.block g hk.lt (fun e => hgu (by rw [hv0] at e; simpa [Value.ownBlock] using e))).trans hk
   ·have holds := World.ownsRow.cells (w := w) (base := base) (e := 3) (size := 1) (v := v) (n := l.length) (xs := intsV l) hown0 (g := g') (by rw [hv0]; rfl)
    have hr2 := run_append_grow (P := Try.prog) w 54 o.type 3 ib _ Try.underlying54 hib hz0 ⟨g', 0, none⟩ l.length cap (intsV l) (by rw [hz1, intsV_length, Nat.mul_one]) holds ⟨b, oo, none⟩ r.length c (intsV r) (by rw [hz1, intsV_length, Nat.mul_one]) hr0.news (by omega) (by omega) (by rw [hz2]; exact growslice_fits (by omega) (by omega))
    rw [<- hv0, hrun] at hr2
    simp only [Result.ok.injEq] at hr2
    have hb : Below w.heap.size w w' := by rw [hr2.2]; exact ((Below.refl _ w).drew).alloc (Nat.le_refl _) _
    exact ⟨fun u n hu => hu.later hb, fun g vs hk _ => hk.later hb⟩
 unfold Oper.wp execOp
 simp only [ho, resolve, invoke, builtin, Sem.run_bind, Sem.run_pure, Result.andThen_ok, List.map_toArray, List.map_cons, List.map_nil, hs, hx]
 rw [<- lr, hrun]
 exact h v' w' h2' ⟨fun _ => ⟨hbel, keep.1, keep.2, hoth⟩⟩
theorem IR.trans {base : Nat} {L : List Int} {w w1 w2 : World} (h : IR base L w w1) (k : IR base L w1 w2) : IR base L w w2 := ⟨fun hb => by
 obtain ⟨a1, a2, a3, a4⟩ := h.out hb
 obtain ⟨b1, b2, b3, b4⟩ := k.out (Nat.le_trans hb a1.size)
 exact ⟨a1.trans b1, fun v n x => b2 v n (a2 v n x), fun g vs x y => b3 g vs (a3 g vs x y) y, fun g vs t x y => b4 g vs t x (a4 g vs t x y)⟩⟩
theorem nest_any {l : List Nd} {c m ba oa : Nat} (hF : Form l) : ∀ i, i < l.length -> NesC (some ⟨ba, oa, none⟩) l c m i := by
 intro i
 induction i using Nat.strongRecOn with
 | ind i ih =>
  intro hi
  by_cases hk : (atN l i).kind = 4
  ·have ha := cnt_kidA hF hi (by omega)
   have hb := cnt_kidB hF hi (.inl hk)
   exact nest_seq hF hi hk (ih _ ha (by omega)) (ih _ hb (by omega))
  ·exact nest_leaf hi hk
def memI (l : List Nd) (i : Nat) : List Int := (memN l i).map fun j : Nat => (j : Int)
theorem memI_length {l : List Nd} {i : Nat} : (memI l i).length = (memN l i).length := by unfold memI; rw [List.length_map]
def MemP (B : Nat) (LL : List Int) (p q : Nat) (w0 : World) (e : Ending) (w : World) : Prop := ∃ v, e = .returned v /\ OwnI w B v (LL.take (p + q)) /\ IR B LL w0 w
def MemC (A : Option Addr) (l : List Nd) (c m : Nat) (i : Nat) : Prop := ∀ (rb : Nat) (u : Value) (W : Wd) (LL : List Int) (p : Nat) (v : Value) (w0 w : World), Rdb rb A l c u W m w0 -> Below w0.heap.size w0 w -> OwnI w w0.heap.size v (LL.take p) -> (p = 0 -> v = .slice none 0 0) -> p + (memN l i).length <= LL.length -> LL.length <= 100000 -> (LL.drop p).take (memN l i).length = memI l i ->
 Calls Try.prog 58 #[.pointer (some ⟨rb, 0, none⟩), v, .int .i64 (i : Int)] w (MemP w0.heap.size LL p (memN l i).length w)
theorem IRow.one {w : World} {g : Nat} {n : Int} (h : Blk w g #[.int .i64 n] 3) : IRow w (some ⟨g, 0, none⟩) [n] := fun i hi => by
 have hi : i < 1 := hi
 obtain rfl : i = 0 := by omega
 exact ⟨g, 0, rfl, h.lt, h.cell 0⟩
theorem wp_append_mem {w : World} {o : Oper} {a : Act} {K : Act -> World -> Prop} {Q : Exit -> Act -> World -> Prop} (s x : Operand)
 (ho : o.op = .call { callee := .builtin .append, args := #[s, x], argTypes := #[54, 54] })
 (base : Nat) (v : Value) (L : List Int) (p : Nat) (n : Int) (hp : p + 1 <= L.length) (h0 : p = 0 -> v = .slice none 0 0) (hs : a.eval s = v) (hown : OwnI w base v (L.take p))
 (b : Nat) (hx : a.eval x = .slice (some ⟨b, 0, none⟩) 1 1) (hnew : Blk w b #[.int .i64 n] 3) (hn : (L.drop p).take 1 = [n]) (hlen : L.length < 536870912) (hbase : base <= w.heap.size)
 (h : ∀ v' w', OwnI w' base v' (L.take (p + 1)) -> IR base L w w' -> K (a.put o.dst v') w') : o.wp Try.prog a w K Q := by
 by_cases hp0 : p = 0
 ·have hv := h0 hp0
  subst hv
  subst hp0
  rw [List.take_zero] at hown
  refine wp_append_int s x ho w.heap.size (.slice none 0 0) [] hs (OwnI.nil _ _) b n hx hnew (by decide) (Nat.le_refl _) fun v' w' h1 h2 _ => ?_
  have hb : Below w.heap.size w w' := ⟨h2.os, h2.tape, h2.output, h2.size, fun k hk => h2.block k hk (by simp [Value.ownBlock])⟩
  refine h v' w' ?_ (IR.of w w' hb)
  have e : L.take (0 + 1) = [n] := by rw [<- hn]; rfl
  rw [e]
  exact h1.lower hbase
 ·exact wp_append_ints s x ho base v L p 1 hp (by omega) (.inl (by omega)) hs hown b 0 1 hx (by rw [hn]; exact IRow.one hnew) hlen hbase h
theorem mem_split {l : List Nd} {i : Nat} (hF : Form l) (hi : i < l.length) (hk : (atN l i).kind = 4) {LL : List Int} {p : Nat} (h : (LL.drop p).take (memN l i).length = memI l i) : (memN l i).length = (memN l (atN l i).a.toNat).length + (memN l (atN l i).b.toNat).length /\ (LL.drop p).take (memN l (atN l i).a.toNat).length = memI l (atN l i).a.toNat /\ (LL.drop (p + (memN l (atN l i).a.toNat).length)).take (memN l (atN l i).b.toNat).length = memI l (atN l i).b.toNat := by
 have e := memN_k4 hF hi hk
 have hl : (memN l i).length = (memN l (atN l i).a.toNat).length + (memN l (atN l i).b.toNat).length := by rw [e, List.length_append]
 have e2 : memI l i = memI l (atN l i).a.toNat ++ memI l (atN l i).b.toNat := by unfold memI; rw [e, List.map_append]
 have ea : (memI l (atN l i).a.toNat).length = (memN l (atN l i).a.toNat).length := memI_length
 rw [hl, e2] at h
 refine ⟨hl, ?_, ?_⟩
 ·have := congrArg (List.take (memN l (atN l i).a.toNat).length) h
  rw [List.take_take, Nat.min_eq_left (by omega), <- ea, List.take_left, ea] at this
  exact this
 ·have := congrArg (List.drop (memN l (atN l i).a.toNat).length) h
  rw [<- ea, List.drop_left, ea, List.drop_take, List.drop_drop, Nat.add_sub_cancel_left] at this
  exact this
theorem mem_leaf {l : List Nd} {c m ba oa : Nat} {i : Nat} (hi : i < l.length) (hk : (atN l i).kind ≠ 4) : MemC (some ⟨ba, oa, none⟩) l c m i := by
 intro rb u W LL p v w0 w hr hb hown h0 hlen hLL hd
 have hm1 : (memN l i).length = 1 := by rw [memN_one hk]; rfl
 rw [hm1] at hlen hd ⊢
 have hd1 : (LL.drop p).take 1 = [(i : Int)] := by rw [hd]; unfold memI; rw [memN_one hk]; rfl
 have HR := Lib.hid (hr.later hb)
 have HB := Lib.hid hb.size
 have HO := Lib.hid hown
 have H0 := Lib.hid h0
 have HD := Lib.hid hd1
 obtain ⟨av, cv, hv, -⟩ := hown.row
 subst hv
 have HP : Hid (p + 1 <= LL.length) := hlen
 have HLL : Hid (LL.length < 536870912) := by unfold Hid; omega
 have hil : (i : Int) < (l.length : Int) := by omega
 have hi0 : ¬ (i : Int) < 0 := by omega
 obtain ⟨b8, o8, hA8, hg8⟩ := HR.out.row.at10 hi
 cases hA8
 unfold At10 at hg8
 obtain ⟨g0, -⟩ := hg8
 have k0 := HR.out.blk.cell 0
 simp at k0
 have hkz : ((atN l i).kind != 4) = true := by simpa using hk
 clear hr hb hown h0 hlen hLL hd hd1 hm1 hk
 generalize (atN l i).kind = kk at *
 obtain ⟨n, hn⟩ : ∃ n, (LL.take p).length = n := ⟨_, rfl⟩
 rw [hn] at HO H0 ⊢
 clear hn
 have hb3 := (Below.refl w.heap.size w).alloc (Nat.le_refl _) (.cells #[.int .i64 (i : Int)] 3)
 have HO3 := Lib.hid (HO.out.later hb3)
 have HX3 := Lib.hid (Blk.new w #[.int .i64 (i : Int)] 3)
 have HB3 := Lib.hid (Nat.le_trans HB.out hb3.size)
 have HI3 := Lib.hid (IR.of (base := w0.heap.size) (L := LL) w _ hb3)
 clear hb3
 go_enter Try.func58, Try.ntmps58
 go_wp2_with (at_builtin; refine wpList_plain rfl fun K hK => ?_; refine wp_append_mem _ _ rfl w0.heap.size _ LL p (i : Int) HP.out H0.out rfl HO3.out w.heap.size rfl HX3.out HD.out HLL.out HB3.out ?_; intro v' w6 h1 h2; have HO6 := Lib.hid h1; have HI6 := Lib.hid h2; refine hK _ _ ?_; clear h1 h2 hK K)
 go_ret
 exact ⟨v', rfl, HO6.out, HI3.out.trans HI6.out⟩
def MemV (B : Nat) (LL : List Int) (p : Nat) (v : Value) (w : World) : Prop := OwnI w B v (LL.take p) /\ B <= w.heap.size
theorem MemV.grow (B : Nat) (LL : List Int) (p : Nat) : ∀ v w w', MemV B LL p v w -> IR B LL w w' -> MemV B LL p v w' := fun v w w' h k => by
 obtain ⟨a1, a2, -, -⟩ := k.out h.2
 exact ⟨a2 v p h.1, Nat.le_trans h.2 a1.size⟩
structure MbS (rb : Nat) (A : Option Addr) (l : List Nd) (c : Nat) (u : Value) (W : Wd) (m : Nat) (LL : List Int) (p : Nat) (v0 : Value) (w0 ws : World) (w : World) : Prop where
 bel : Below w0.heap.size w0 w
 rd : Rdb rb A l c u W m w
 own : OwnI w w0.heap.size v0 (LL.take p)
 ir : IR w0.heap.size LL ws w
theorem MbS.grow {rb : Nat} {A : Option Addr} {l : List Nd} {c : Nat} {u : Value} {W : Wd} {m : Nat} {LL : List Int} {p : Nat} {v0 : Value} {w0 ws w w' : World} (hr : Rdb rb A l c u W m w0) (h : MbS rb A l c u W m LL p v0 w0 ws w) (k : IR w0.heap.size LL w w') : MbS rb A l c u W m LL p v0 w0 ws w' := by
 obtain ⟨a1, a2, -, -⟩ := k.out h.bel.size
 exact ⟨h.bel.trans a1, hr.later (h.bel.trans a1), a2 v0 p h.own, h.ir.trans k⟩
theorem mem_seq {l : List Nd} {c m ba oa : Nat} {i : Nat} (hF : Form l) (hi : i < l.length) (hk : (atN l i).kind = 4) (hA : MemC (some ⟨ba, oa, none⟩) l c m (atN l i).a.toNat) (hBB : MemC (some ⟨ba, oa, none⟩) l c m (atN l i).b.toNat) : MemC (some ⟨ba, oa, none⟩) l c m i := by
 intro rb u W LL p v w0 w hr hb hown h0 hlen hLL hd
 have hab : (((atN l i).a.toNat : Nat) : Int) = (atN l i).a /\ (((atN l i).b.toNat : Nat) : Int) = (atN l i).b := by
  have hcs := (hF.2.1 i hi).cs rfl
  cases hcs with
  | leaf h1 hf => unfold leafK at h1; omega
  | one h1 hi0 ha hb h7 hr hcl hf => omega
  | two h1 hi0 hb ha hf0 hl hcl hf => omega
 obtain ⟨hm, hda, hdb⟩ := mem_split hF hi hk hd
 have hpos := memN_pos hF (i := (atN l i).a.toNat) (by have := cnt_kidA hF hi (by omega); omega)
 obtain ⟨a, ha⟩ : ∃ a, (atN l i).a.toNat = a := ⟨_, rfl⟩
 obtain ⟨b, hbe⟩ : ∃ b, (atN l i).b.toNat = b := ⟨_, rfl⟩
 obtain ⟨haz, hbz⟩ := hab
 rw [ha] at hA haz hm hda hdb hpos
 rw [hbe] at hBB hbz hm hdb
 rw [hm] at hlen ⊢
 have HS : Hid (MbS rb (some ⟨ba, oa, none⟩) l c u W m LL p v w0 w w) := ⟨hb, hr.later hb, hown, IR.of w w (Below.refl _ _)⟩
 have HC1 : Hid (∀ w', MbS rb (some ⟨ba, oa, none⟩) l c u W m LL p v w0 w w' -> Calls Try.prog 58 #[.pointer (some ⟨rb, 0, none⟩), v, .int .i64 (a : Int)] w' (MemP w0.heap.size LL p (memN l a).length w')) := fun w' h => hA rb u W LL p v w0 w' hr h.bel h.own h0 (by omega) hLL hda
 have HC2 : Hid (∀ w' v', MbS rb (some ⟨ba, oa, none⟩) l c u W m LL p v w0 w w' -> MemV w0.heap.size LL (p + (memN l a).length) v' w' -> Calls Try.prog 58 #[.pointer (some ⟨rb, 0, none⟩), v', .int .i64 (b : Int)] w' (MemP w0.heap.size LL (p + (memN l a).length) (memN l b).length w')) := fun w' v' h k => hBB rb u W LL (p + (memN l a).length) v' w0 w' hr h.bel k.1 (fun e => by omega) (by omega) hLL hdb
 have HR := Lib.hid hr
 have HIR := Lib.hid (fun (w w' : World) (h : Below w.heap.size w w') => IR.of (base := w0.heap.size) (L := LL) w w' h)
 obtain ⟨av, cv, hv, -⟩ := hown.row
 subst hv
 obtain ⟨b8, o8, hA8, hg8⟩ := HS.out.rd.row.at10 hi
 cases hA8
 have HAT := Lib.hid (fun (w' : World) (h : NRow w' (some ⟨ba, oa, none⟩) l) => h.at (i := i) hi rfl)
 unfold At10 at hg8 HAT
 rw [show l.getD i nd0 = atN l i from rfl] at HAT
 obtain ⟨g0, -⟩ := hg8
 have k0 := HS.out.rd.blk.cell 0
 simp at k0
 have hil : (i : Int) < (l.length : Int) := by omega
 have hi0 : ¬ (i : Int) < 0 := by omega
 have hkz : ((atN l i).kind != 4) = false := by simpa using hk
 clear hr hb hown h0 hlen hLL hd hda hdb hA hBB hm hpos ha hbe hk
 generalize (atN l i).kind = kk at *
 generalize (atN l i).a = na at *
 generalize (atN l i).b = nb at *
 subst haz
 subst hbz
 obtain ⟨n, hn⟩ : ∃ n, (LL.take p).length = n := ⟨_, rfl⟩
 rw [hn] at HS HC1 HC2 ⊢
 clear hn
 generalize (memN l a).length = qa at *
 generalize (memN l b).length = qb at *
 go_enter Try.func58, Try.ntmps58
 go_upto_region 4 with (fail)
 clear g0 k0
 refine G.wp_region_stable_tail (R := (IR w0.heap.size LL)) HIR.out 13 (S := (MbS rb (some ⟨ba, oa, none⟩) l c u W m LL p (.slice av n cv) w0 w)) (hSt := fun _ _ h hr => h.grow HR.out hr) (plan := [[(0, none)], [(0, none)], [(1, none)], [(7, none)], [(26, some 3)], [(27, some 4)], [(28, some 5)], [(24, some 1), (25, some 2), (29, some 6)], [(7, none)], [(31, some 8)], [(32, some 9)], [(33, some 10)], [(23, some 0), (30, some 7), (34, some 11)]]) rfl rfl (by kernel_rfl) (by kernel_rfl) (by kernel_rfl) (by kernel_rfl) ?hS ?_
 rotate_left
 iterate 7 first
  | (refine G.chain_skip (by rfl) (by rfl) ?_)
  | (apply G.chain_want (by rfl)
     ·intro act wx hS hr
      simp at hr
      have k0 := hS.rd.blk.cell 0
      simp at k0
      obtain ⟨g0, g1, g2, -⟩ := HAT.out _ hS.rd.row
      go_simp
      (try go_ints)
      first
       | exact G.Done.same HIR.out
    )
 (refine G.chain_rel (MemV w0.heap.size LL (p + qa)) (MemV.grow w0.heap.size LL (p + qa)) (by rfl) ?_ ?_
  ·intro act wx hS hr
   simp at hr
   have k0 := hS.rd.blk.cell 0
   simp at k0
   obtain ⟨g0, g1, g2, -⟩ := HAT.out _ hS.rd.row
   all_goals go_simp
   (refine (HC1.out _ hS).mono ?_); rintro e w5 ⟨v5, rfl, ho5, hi5⟩; exact G.Done.rel hi5 ⟨ho5, Nat.le_trans hS.bel.size (hi5.out hS.bel.size).1.size⟩
 )
 iterate 4 first
  | (refine G.chain_skip (by rfl) (by rfl) ?_)
  | (apply G.chain_want (by rfl)
     ·intro act wx hS hr
      simp at hr
      have k0 := hS.rd.blk.cell 0
      simp at k0
      obtain ⟨g0, g1, g2, -⟩ := HAT.out _ hS.rd.row
      go_simp
      (try go_ints)
      first
       | exact G.Done.same HIR.out
    )
 (refine G.chain_rel (MemV w0.heap.size LL (p + qa + qb)) (MemV.grow w0.heap.size LL (p + qa + qb)) (by rfl) ?_ ?_
  ·intro act wx hS hr
   simp at hr
   have k0 := hS.rd.blk.cell 0
   simp at k0
   obtain ⟨g0, g1, g2, -⟩ := HAT.out _ hS.rd.row
   obtain ⟨hr1, ⟨v, hr2, hv⟩, hr3⟩ := hr
   all_goals go_simp
   (try simp only [hr1, hr2, hr3, Option.getD_some]); (refine (HC2.out _ _ hS hv).mono ?_); rintro e w5 ⟨v5, rfl, ho5, hi5⟩; exact G.Done.rel hi5 ⟨ho5, Nat.le_trans hS.bel.size (hi5.out hS.bel.size).1.size⟩
 )
 show ∀ w', _ -> _
 intro wz hz
 simp [Act.put]
 case hS => exact HS.out
 intro v7 _ v12 hv12
 have HO := Lib.hid hv12.1
 have HI := Lib.hid hz.ir
 clear hz hv12 HS HC1 HC2 HAT HIR
 go_wp2
 go_ret
 exact ⟨v12, rfl, by rw [<- Nat.add_assoc]; exact HO.out, HI.out⟩
theorem mem_any {l : List Nd} {c m ba oa : Nat} (hF : Form l) : ∀ i, i < l.length -> MemC (some ⟨ba, oa, none⟩) l c m i := by
 intro i
 induction i using Nat.strongRecOn with
 | ind i ih =>
  intro hi
  by_cases hk : (atN l i).kind = 4
  ·have ha := cnt_kidA hF hi (by omega)
   have hb := cnt_kidB hF hi (.inl hk)
   exact mem_seq hF hi hk (ih _ ha (by omega)) (ih _ hb (by omega))
  ·exact mem_leaf hi hk
theorem members_any {l : List Nd} {c m ba oa : Nat} (hF : Form l) {i : Nat} (hi : i < l.length) (hln : (memN l i).length <= 100000) {rb : Nat} {u : Value} {W : Wd} {w : World} (hr : Rdb rb (some ⟨ba, oa, none⟩) l c u W m w) :
 Calls Try.prog 58 #[.pointer (some ⟨rb, 0, none⟩), .slice none 0 0, .int .i64 (i : Int)] w (fun e w' => ∃ v, e = .returned v /\ OwnI w' w.heap.size v (memI l i) /\ Below w.heap.size w w') := by
 have := mem_any (c := c) (m := m) (ba := ba) (oa := oa) hF i hi rb u W (memI l i) 0 (.slice none 0 0) w w hr (Below.refl _ _) (by rw [List.take_zero]; exact OwnI.nil _ _) (fun _ => rfl) (by rw [memI_length]; omega) (by rw [memI_length]; exact hln) (by rw [List.drop_zero, List.take_of_length_le (by rw [memI_length]; exact Nat.le_refl _)])
 refine this.mono fun e w' h => ?_
 obtain ⟨v, h1, h2, h3⟩ := h
 refine ⟨v, h1, ?_, (h3.out (Nat.le_refl _)).1⟩
 rwa [Nat.zero_add, List.take_of_length_le (by rw [memI_length]; exact Nat.le_refl _)] at h2
end Go.Proofs.Ytpbbokdmoaadfaa
