/- The table of kinds, of the ways of nothing: walked. -/
import Derived.Test.YtcgjmnhmhiddkaaGreatDoorM34
import Derived.Test.YtcgjmnhmhiddkaaGreatDoorM30
import Derived.Test.YtcgjmnhmhiddkaaGreatDoorM15
import Derived.Test.YtcgjmnhmhiddkaaGreatDoorM16
import Derived.Laws.EntriesVeiled
namespace Go.Proofs.YtcgjmnhmhiddkaaGreatDoor
open Go Go.RowKit
set_option linter.unusedVariables false
set_option linter.unusedSimpArgs false
set_option maxRecDepth 100000

theorem run_lookup_way (w : World) (m : Nat) (l : List (Int × Value)) (k : Int) (hm : IsMapK w m l) :
    (Instr.lookup 114 (.map (some m)) (.int .i64 k) true).run Tryz.prog w = .ok (match findEK l k 0 with | some (_, v) => .tuple #[v, .bool true] | none => .tuple #[.nilFunc, .bool false]) w := by
  unfold IsMapK at hm
  have hf := findNow_mapEsK k l 0
  have hz := Tryz.zeroValue117
  simp only [Instr.lookup, Sem.run_bind, run_underlying Tryz.underlying114, Result.andThen, getObj, Sem.run, hm, keysK_free, Instr.findKey, run_underlying Tryz.underlying3, hf]
  rw [show (Sem.run Tryz.prog (pure (mapEsK l 0).toArray) w) = .ok (mapEsK l 0).toArray w from rfl]
  simp only [hf]
  cases h : findEK l k 0 with
  | none => simp [Sem.run_bind, hz, Result.andThen]
  | some p => obtain ⟨i, v⟩ := p; rfl
theorem run_update_way (w : World) (m : Nat) (l : List (Int × Value)) (k : Int) (v : Value) (hm : IsMapK w m l) (hk : findEK l k 0 = none) :
    (Instr.mapUpdate 114 (.map (some m)) (.int .i64 k) v).run Tryz.prog w = .ok () (putMapK w m (l ++ [(k, v)])) := by
  have hlt := hm.lt
  unfold IsMapK at hm
  have hf := findNow_mapEsK k l 0
  rw [hk] at hf
  simp only [Instr.mapUpdate, Sem.run_bind, run_underlying Tryz.underlying114, Result.andThen, getObj, Sem.run, hm, keysK_free, Instr.findKey, run_underlying Tryz.underlying3, hf]
  simp only [setObj, Sem.run, hm]
  unfold putMapK
  rw [mapEsK_append]
  simp [Sem.run, hm]
theorem blk_putW {w : World} {m b : Nat} {vs : Array Value} {t : TypeId} {l l' : List (Int × Value)} (hm : IsMapK w m l) (h : Blk w b vs t) : Blk (putMapK w m l') b vs t := by
  have hne : b ≠ m := fun e => by
    unfold Blk at h; unfold IsMapK at hm
    rw [e, hm] at h; cases h
  exact (putMapK_other hne l').trans h
theorem put_stepW {w0 w : World} {m : Nat} {l l' : List (Int × Value)} (hb : Below w0.heap.size w0 w) (hlow : w0.heap.size ≤ m) (hm : IsMapK w m l) : Below w0.heap.size w0 (putMapK w m l') ∧ IsMapK (putMapK w m l') m l' := ⟨putMapK_below hb hlow l', putMapK_is hm.lt l'⟩
/-- The table of kinds. -/
def wL (bf : Nat) : List (Int × Value) := [(1, (.func (.func 94) #[] #[] : Value)), (4, (.func (.func 95) #[] #[.pointer (some ⟨bf, 0, none⟩)] : Value)), (5, (.func (.func 97) #[] #[.pointer (some ⟨bf, 0, none⟩)] : Value)), (6, (.func (.func 98) #[] #[.pointer (some ⟨bf, 0, none⟩)] : Value)), (7, (.func (.func 99) #[] #[.pointer (some ⟨bf, 0, none⟩)] : Value))]
structure NkS (w0 : World) (bf bw m : Nat) (l : List (Int × Value)) (w : World) : Prop where
  bel : Below w0.heap.size w0 w
  fn : Blk w bf #[fnW bw] 116
  map : IsMapK w m l
  low : w0.heap.size ≤ m
theorem NkS.put {w0 w : World} {bf bw m : Nat} {l : List (Int × Value)} (h : NkS w0 bf bw m l w) (l' : List (Int × Value)) : NkS w0 bf bw m l' (putMapK w m l') :=
  ⟨(put_stepW h.bel h.low h.map).1, blk_putW h.map h.fn, (put_stepW h.bel h.low h.map).2, h.low⟩
set_option maxHeartbeats 16000000 in
theorem nkinds_any (bw : Nat) (w : World) : Calls Tryz.prog 62 #[.func (.func 63) #[] #[.pointer (some ⟨bw, 0, none⟩)]] w (fun e w' => ∃ m bf, e = .returned (.map (some m)) ∧ IsMapK w' m (wL bf) ∧ Blk w' bf #[fnW bw] 116 ∧ Below w.heap.size w w') := by
  have hmm := @run_makeMap Tryz.prog
  have hb1 := (Below.refl w.heap.size w).alloc (Nat.le_refl _) (.cells #[fnW bw] 116)
  have hf1 := Blk.new w #[fnW bw] 116
  unfold fnW at hb1 hf1
  have HB1 := Lib.hid hb1
  have HF1 := Lib.hid hf1
  clear hb1 hf1
  go_enter Tryz.func62, Tryz.ntmps62
  go_upto_region 1 with (fail)
  generalize w.alloc (.cells #[.func (.func 63) #[] #[.pointer (some ⟨bw, 0, none⟩)]] 116) = w1 at *
  have HLOW : Hid (w.heap.size ≤ w1.heap.size) := HB1.out.size
  have HS0 : Hid (NkS w w.heap.size bw w1.heap.size [] (w1.alloc (.map #[] 0))) := ⟨HB1.out.trans ((Below.refl _ _).alloc HLOW.out _), HF1.out.alloc _, by unfold IsMapK mapEsK; show (w1.heap.push _)[w1.heap.size]? = _; simp, HLOW.out⟩

  obtain ⟨u1, hu1⟩ : ∃ u, u = putMapK (w1.alloc (.map #[] 0)) w1.heap.size [(1, (.func (.func 94) #[] #[] : Value))] := ⟨_, rfl⟩
  have hx1 : (Instr.mapUpdate 114 (.map (some w1.heap.size)) (.int .i64 1) (.func (.func 94) #[] #[] : Value)).run Tryz.prog (w1.alloc (.map #[] 0)) = .ok () u1 := by
    rw [hu1]; exact run_update_way (w1.alloc (.map #[] 0)) w1.heap.size [] 1 (.func (.func 94) #[] #[] : Value) HS0.out.map rfl
  have HS1 : Hid (NkS w w.heap.size bw w1.heap.size [(1, (.func (.func 94) #[] #[] : Value))] u1) := by rw [hu1]; exact HS0.out.put _
  clear hu1
  obtain ⟨u2, hu2⟩ : ∃ u, u = putMapK u1 w1.heap.size [(1, (.func (.func 94) #[] #[] : Value)), (4, (.func (.func 95) #[] #[.pointer (some ⟨w.heap.size, 0, none⟩)] : Value))] := ⟨_, rfl⟩
  have hx2 : (Instr.mapUpdate 114 (.map (some w1.heap.size)) (.int .i64 4) (.func (.func 95) #[] #[.pointer (some ⟨w.heap.size, 0, none⟩)] : Value)).run Tryz.prog u1 = .ok () u2 := by
    rw [hu2]; exact run_update_way u1 w1.heap.size [(1, (.func (.func 94) #[] #[] : Value))] 4 (.func (.func 95) #[] #[.pointer (some ⟨w.heap.size, 0, none⟩)] : Value) HS1.out.map rfl
  have HS2 : Hid (NkS w w.heap.size bw w1.heap.size [(1, (.func (.func 94) #[] #[] : Value)), (4, (.func (.func 95) #[] #[.pointer (some ⟨w.heap.size, 0, none⟩)] : Value))] u2) := by rw [hu2]; exact HS1.out.put _
  clear hu2
  obtain ⟨u3, hu3⟩ : ∃ u, u = putMapK u2 w1.heap.size [(1, (.func (.func 94) #[] #[] : Value)), (4, (.func (.func 95) #[] #[.pointer (some ⟨w.heap.size, 0, none⟩)] : Value)), (5, (.func (.func 97) #[] #[.pointer (some ⟨w.heap.size, 0, none⟩)] : Value))] := ⟨_, rfl⟩
  have hx3 : (Instr.mapUpdate 114 (.map (some w1.heap.size)) (.int .i64 5) (.func (.func 97) #[] #[.pointer (some ⟨w.heap.size, 0, none⟩)] : Value)).run Tryz.prog u2 = .ok () u3 := by
    rw [hu3]; exact run_update_way u2 w1.heap.size [(1, (.func (.func 94) #[] #[] : Value)), (4, (.func (.func 95) #[] #[.pointer (some ⟨w.heap.size, 0, none⟩)] : Value))] 5 (.func (.func 97) #[] #[.pointer (some ⟨w.heap.size, 0, none⟩)] : Value) HS2.out.map rfl
  have HS3 : Hid (NkS w w.heap.size bw w1.heap.size [(1, (.func (.func 94) #[] #[] : Value)), (4, (.func (.func 95) #[] #[.pointer (some ⟨w.heap.size, 0, none⟩)] : Value)), (5, (.func (.func 97) #[] #[.pointer (some ⟨w.heap.size, 0, none⟩)] : Value))] u3) := by rw [hu3]; exact HS2.out.put _
  clear hu3
  obtain ⟨u4, hu4⟩ : ∃ u, u = putMapK u3 w1.heap.size [(1, (.func (.func 94) #[] #[] : Value)), (4, (.func (.func 95) #[] #[.pointer (some ⟨w.heap.size, 0, none⟩)] : Value)), (5, (.func (.func 97) #[] #[.pointer (some ⟨w.heap.size, 0, none⟩)] : Value)), (6, (.func (.func 98) #[] #[.pointer (some ⟨w.heap.size, 0, none⟩)] : Value))] := ⟨_, rfl⟩
  have hx4 : (Instr.mapUpdate 114 (.map (some w1.heap.size)) (.int .i64 6) (.func (.func 98) #[] #[.pointer (some ⟨w.heap.size, 0, none⟩)] : Value)).run Tryz.prog u3 = .ok () u4 := by
    rw [hu4]; exact run_update_way u3 w1.heap.size [(1, (.func (.func 94) #[] #[] : Value)), (4, (.func (.func 95) #[] #[.pointer (some ⟨w.heap.size, 0, none⟩)] : Value)), (5, (.func (.func 97) #[] #[.pointer (some ⟨w.heap.size, 0, none⟩)] : Value))] 6 (.func (.func 98) #[] #[.pointer (some ⟨w.heap.size, 0, none⟩)] : Value) HS3.out.map rfl
  have HS4 : Hid (NkS w w.heap.size bw w1.heap.size [(1, (.func (.func 94) #[] #[] : Value)), (4, (.func (.func 95) #[] #[.pointer (some ⟨w.heap.size, 0, none⟩)] : Value)), (5, (.func (.func 97) #[] #[.pointer (some ⟨w.heap.size, 0, none⟩)] : Value)), (6, (.func (.func 98) #[] #[.pointer (some ⟨w.heap.size, 0, none⟩)] : Value))] u4) := by rw [hu4]; exact HS3.out.put _
  clear hu4
  obtain ⟨u5, hu5⟩ : ∃ u, u = putMapK u4 w1.heap.size [(1, (.func (.func 94) #[] #[] : Value)), (4, (.func (.func 95) #[] #[.pointer (some ⟨w.heap.size, 0, none⟩)] : Value)), (5, (.func (.func 97) #[] #[.pointer (some ⟨w.heap.size, 0, none⟩)] : Value)), (6, (.func (.func 98) #[] #[.pointer (some ⟨w.heap.size, 0, none⟩)] : Value)), (7, (.func (.func 99) #[] #[.pointer (some ⟨w.heap.size, 0, none⟩)] : Value))] := ⟨_, rfl⟩
  have hx5 : (Instr.mapUpdate 114 (.map (some w1.heap.size)) (.int .i64 7) (.func (.func 99) #[] #[.pointer (some ⟨w.heap.size, 0, none⟩)] : Value)).run Tryz.prog u4 = .ok () u5 := by
    rw [hu5]; exact run_update_way u4 w1.heap.size [(1, (.func (.func 94) #[] #[] : Value)), (4, (.func (.func 95) #[] #[.pointer (some ⟨w.heap.size, 0, none⟩)] : Value)), (5, (.func (.func 97) #[] #[.pointer (some ⟨w.heap.size, 0, none⟩)] : Value)), (6, (.func (.func 98) #[] #[.pointer (some ⟨w.heap.size, 0, none⟩)] : Value))] 7 (.func (.func 99) #[] #[.pointer (some ⟨w.heap.size, 0, none⟩)] : Value) HS4.out.map rfl
  have HS5 : Hid (NkS w w.heap.size bw w1.heap.size [(1, (.func (.func 94) #[] #[] : Value)), (4, (.func (.func 95) #[] #[.pointer (some ⟨w.heap.size, 0, none⟩)] : Value)), (5, (.func (.func 97) #[] #[.pointer (some ⟨w.heap.size, 0, none⟩)] : Value)), (6, (.func (.func 98) #[] #[.pointer (some ⟨w.heap.size, 0, none⟩)] : Value)), (7, (.func (.func 99) #[] #[.pointer (some ⟨w.heap.size, 0, none⟩)] : Value))] u5) := by rw [hu5]; exact HS4.out.put _
  clear hu5
  go_wp2
  go_ret
  exact ⟨_, _, rfl, HS5.out.map, HS5.out.fn, HS5.out.bel⟩
/-- What is found. -/
theorem findW (bf : Nat) (k : Int) : findEK (wL bf) k 0 = if k = 1 then some (0, .func (.func 94) #[] #[]) else if k = 4 then some (1, .func (.func 95) #[] #[.pointer (some ⟨bf, 0, none⟩)]) else if k = 5 then some (2, .func (.func 97) #[] #[.pointer (some ⟨bf, 0, none⟩)]) else if k = 6 then some (3, .func (.func 98) #[] #[.pointer (some ⟨bf, 0, none⟩)]) else if k = 7 then some (4, .func (.func 99) #[] #[.pointer (some ⟨bf, 0, none⟩)]) else none := by
  simp only [wL, findEK, eq_comm (a := k)]
/-- A node's kind, looked up: who tells its ways, or none, and none are. -/
theorem way_at (n : Nd) (hn : IntOk n) (m bf bw : Nat) (w : World) (hm : IsMapK w m (wL bf)) : (∃ fK binds, (Instr.lookup 114 (.map (some m)) (.int .i64 n.kind) true).run Tryz.prog w = .ok (.tuple #[.func (.func fK) #[] binds, .bool true]) w ∧
    (∀ args w, (callFunc fK args).run Tryz.prog w = .ok (.enter fK args) w) ∧ ∀ (A : Option Addr) (c : Nat) (S : List Nat) (w' : World), (∀ x ∈ S, x ≤ 2) → KwS bf bw A c S w' → Calls Tryz.prog fK (#[.agg (ndC n)] ++ binds) w' (Ans w' (.int .i64 ((waysW n S : Nat) : Int)))) ∨
    ((Instr.lookup 114 (.map (some m)) (.int .i64 n.kind) true).run Tryz.prog w = .ok (.tuple #[.nilFunc, .bool false]) w ∧ ∀ S, waysW n S = 0) := by
  have hl := run_lookup_way w m (wL bf) n.kind hm
  rw [findW] at hl
  by_cases h1 : n.kind = 1
  · rw [if_pos h1] at hl
    exact .inl ⟨_, #[], hl, enters_of Tryz.func94 (by kernel_rfl) rfl, fun A c S w' hS hk => by
      have e : waysW n S = 1 := by unfold waysW; rw [if_pos h1]
      rw [e]; exact nk1_any n w'⟩
  rw [if_neg h1] at hl
  by_cases h4 : n.kind = 4
  · rw [if_pos h4] at hl
    exact .inl ⟨_, #[.pointer (some ⟨bf, 0, none⟩)], hl, enters_of Tryz.func95 (by kernel_rfl) rfl, fun A c S w' hS hk => nk2_any n h4 hS trivial w' hk⟩
  rw [if_neg h4] at hl
  by_cases h5 : n.kind = 5
  · rw [if_pos h5] at hl
    exact .inl ⟨_, #[.pointer (some ⟨bf, 0, none⟩)], hl, enters_of Tryz.func97 (by kernel_rfl) rfl, fun A c S w' hS hk => nk3_any n h5 hS trivial w' hk⟩
  rw [if_neg h5] at hl
  by_cases h6 : n.kind = 6
  · rw [if_pos h6] at hl
    exact .inl ⟨_, #[.pointer (some ⟨bf, 0, none⟩)], hl, enters_of Tryz.func98 (by kernel_rfl) rfl, fun A c S w' hS hk => nk4_any n h6 hS trivial w' hk⟩
  rw [if_neg h6] at hl
  by_cases h7 : n.kind = 7
  · rw [if_pos h7] at hl
    exact .inl ⟨_, #[.pointer (some ⟨bf, 0, none⟩)], hl, enters_of Tryz.func99 (by kernel_rfl) rfl, fun A c S w' hS hk => nk5_any n h7 hS hn w' hk⟩
  rw [if_neg h7] at hl
  exact .inr ⟨hl, fun S => by unfold waysW; rw [if_neg h1, if_neg h4, if_neg h5, if_neg h6, if_neg h7]⟩
end Go.Proofs.YtcgjmnhmhiddkaaGreatDoor
/- The anchor of layer 4: answers that the document fixes. -/
namespace Go.Proofs.YtcgjmnhmhiddkaaGreatDoor
open Go Go.RowKit
set_option linter.unusedVariables false
set_option linter.unusedSimpArgs false

theorem IsD.form {l : List Nd} {v : Value} {w : World} (h : IsD l v w) (hl : l.length ≤ 1073741824) (ht : Txt l) (hT : U8T w) : Calls Tryz.prog 26 #[v] w (Ans w (.bool (formB l))) := by
  obtain ⟨A, c, _, rfl, hr⟩ := h
  exact form_any l A c hl ht w hr hT
end Go.Proofs.YtcgjmnhmhiddkaaGreatDoor
/- The statement NodeParts of layer 4, walked. -/
namespace Go.Proofs.YtcgjmnhmhiddkaaGreatDoor
open Go Go.RowKit
set_option linter.unusedVariables false
set_option linter.unusedSimpArgs false

theorem Form.mvOk {l : List Nd} (h : Form l) (ht : Txt l) (hlen : l.length ≤ 1073741823) {d : Int} (h1 : -1073741824 ≤ d) (h2 : d ≤ 1073741824) : ∀ n ∈ l, MvOk d n := fun n hn => by
  obtain ⟨i, hi, e⟩ := List.mem_iff_getElem.1 hn
  have ha : atN l i = n := by unfold atN; rw [List.getD_eq_getElem?_getD, List.getElem?_eq_getElem hi]; exact e
  have := (h.2.1 i hi).mvOk (by omega) (txt_at ht i) h1 h2
  rwa [ha] at this
end Go.Proofs.YtcgjmnhmhiddkaaGreatDoor
/- The statement NodeForms of layer 4, walked. -/
namespace Go.Proofs.YtcgjmnhmhiddkaaGreatDoor
open Go Go.RowKit
set_option linter.unusedVariables false
set_option linter.unusedSimpArgs false

theorem okN.kind9 {l : List Nd} {i : Nat} {n : Nd} (h : okN l i n) : n.kind ≤ 9 := by
  obtain ⟨_, h⟩ := h; omega
end Go.Proofs.YtcgjmnhmhiddkaaGreatDoor
